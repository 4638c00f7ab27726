/- The walk of TreeText: where its two texts have at most 1048576 bytes it returns true. Conditions: the table of powers holds what its initialiser lays. -/
import Derived.Test.YtbeflkadmehdlaaDoorTextAll
import Derived.Test.YtbeflkadmehdlaaDoorTreeAwake
import Derived.Test.YtbeflkadmehdlaaDoorMakeLeaf
import Derived.Test.YtbeflkadmehdlaaDoorTreeFrame
import Derived.Lib.QuietBelow
import Derived.BigQuiet
namespace Go.Proofs.YtbeflkadmehdlaaDoor
open Go.ChangeShapes Go.WideShapes Go.ChangeAt Go.RowKit
set_option linter.unusedVariables false
set_option linter.unusedSimpArgs false

def fenceS : Stm := ⟨8, ⟨#[]⟩, [], 0, [], [], 0⟩
def stmS (K C : Nat) : Stm := ⟨K, ⟨#[109]⟩, [nameT ⟨#[118]⟩, nameT ⟨#[118]⟩], C, [fenceS], [], 0⟩
def prgS (lab : Int) (a1 : ByteArray) (zi : Int) (by_ : ByteArray) (K C : Nat) : Prg := ⟨[⟨false, lab, a1, zi, by_, 0⟩, ⟨true, 0, ⟨#[108]⟩, 0, ⟨#[]⟩, 0⟩], [[stmS K C]]⟩
def lineS (C : Nat) : Nat → ByteArray
  | 0 => ⟨#[9, 108, 111, 99, 97, 108, 32, 109, 32, 61, 32, 118, 59, 10]⟩
  | 1 => ⟨#[9, 109, 32, 61, 32, 118, 59, 10]⟩
  | 2 => ⟨#[9, 109, 91, 118, 93, 32, 61, 32, 118, 59, 10]⟩
  | 3 => ⟨#[9, 105, 102, 32, 40, 118, 41, 32, 123, 10, 9, 9, 102, 101, 110, 99, 101, 59, 10, 9, 125, 10]⟩
  | 4 => ⟨#[9, 108, 111, 111, 112, 32, 109, 32]⟩ ++ ⟨#[digitB C]⟩ ++ ⟨#[32, 123, 10, 9, 9, 102, 101, 110, 99, 101, 59, 10, 9, 125, 10]⟩
  | 5 => ⟨#[9, 116, 97, 107, 101, 32, 109, 59, 10]⟩
  | 6 => ⟨#[9, 103, 105, 118, 101, 32, 109, 59, 10]⟩
  | 7 => ⟨#[9, 97, 100, 100, 32, 109, 32, 118, 59, 10]⟩
  | 8 => ⟨#[9, 102, 101, 110, 99, 101, 59, 10]⟩
  | 9 => ⟨#[9, 111, 117, 116, 112, 117, 116, 32, 118, 59, 10]⟩
  | _ => ⟨#[9, 111, 117, 116, 112, 117, 116, 32, 118, 59, 10]⟩
@[reducible] def textW (wA : World) (lab : Int) (a1 : ByteArray) (zi : Int) (by_ : ByteArray) (K C : Nat) : World := ((((((((((wA.alloc (.cells #[.bool false, .int .i64 lab, .string a1, .int .i64 zi, .string by_, .int .i64 0] 41)).alloc (.cells #[.int .i64 1, .int .i64 0, .string ⟨#[118]⟩, .int .u64 0, .slice none 0 0, .int .i64 0] 35)).alloc (.cells #[.int .i64 1, .int .i64 0, .string ⟨#[118]⟩, .int .u64 0, .slice none 0 0, .int .i64 0, .int .i64 1, .int .i64 0, .string ⟨#[118]⟩, .int .u64 0, .slice none 0 0, .int .i64 0] 35)).alloc (.cells #[.int .i64 8, .string ⟨#[]⟩, .slice none 0 0, .int .i64 0, .slice none 0 0, .slice none 0 0, .int .i64 0] 45)).alloc (.cells #[.int .i64 (K : Int), .string ⟨#[109]⟩, .slice (some ⟨wA.heap.size + 1 + 1, 0, none⟩) 2 2, .int .i64 (C : Int), .slice (some ⟨wA.heap.size + 1 + 1 + 1, 0, none⟩) 1 1, .slice none 0 0, .int .i64 0] 45)).alloc (.cells #[.bool false, .int .i64 lab, .string a1, .int .i64 zi, .string by_, .int .i64 0, .bool true, .int .i64 0, .string ⟨#[108]⟩, .int .i64 0, .string ⟨#[]⟩, .int .i64 0] 41)).alloc (.cells #[.int .i64 (K : Int), .string ⟨#[109]⟩, .slice (some ⟨wA.heap.size + 1 + 1, 0, none⟩) 2 2, .int .i64 (C : Int), .slice (some ⟨wA.heap.size + 1 + 1 + 1, 0, none⟩) 1 1, .slice none 0 0, .int .i64 0] 45)).alloc (.cells #[.slice (some ⟨wA.heap.size + 1 + 1 + 1 + 1 + 1 + 1, 0, none⟩) 1 1] 43)).alloc (.cells #[.slice (some ⟨wA.heap.size + 1 + 1 + 1 + 1 + 1, 0, none⟩) 2 2, .slice (some ⟨wA.heap.size + 1 + 1 + 1 + 1 + 1 + 1 + 1, 0, none⟩) 1 1] 49)).alloc (.cells #[.string (⟨#[9, 108, 111, 99, 97, 108, 32, 109, 32, 61, 32, 118, 59, 10]⟩), .string (⟨#[9, 109, 32, 61, 32, 118, 59, 10]⟩), .string (⟨#[9, 109, 91, 118, 93, 32, 61, 32, 118, 59, 10]⟩), .string (⟨#[9, 105, 102, 32, 40, 118, 41, 32, 123, 10, 9, 9, 102, 101, 110, 99, 101, 59, 10, 9, 125, 10]⟩), .string (⟨#[9, 108, 111, 111, 112, 32, 109, 32]⟩ ++ ⟨#[digitB C]⟩ ++ ⟨#[32, 123, 10, 9, 9, 102, 101, 110, 99, 101, 59, 10, 9, 125, 10]⟩), .string (⟨#[9, 116, 97, 107, 101, 32, 109, 59, 10]⟩), .string (⟨#[9, 103, 105, 118, 101, 32, 109, 59, 10]⟩), .string (⟨#[9, 97, 100, 100, 32, 109, 32, 118, 59, 10]⟩), .string (⟨#[9, 102, 101, 110, 99, 101, 59, 10]⟩), .string (⟨#[9, 111, 117, 116, 112, 117, 116, 32, 118, 59, 10]⟩), .string (⟨#[9, 111, 117, 116, 112, 117, 116, 32, 118, 59, 10]⟩)] 9))
theorem textW_2 (wA : World) (lab : Int) (a1 : ByteArray) (zi : Int) (by_ : ByteArray) (K C : Nat) : (textW wA lab a1 zi by_ K C).heap[wA.heap.size + 1 + 1]? = some (.cells #[.int .i64 1, .int .i64 0, .string ⟨#[118]⟩, .int .u64 0, .slice none 0 0, .int .i64 0, .int .i64 1, .int .i64 0, .string ⟨#[118]⟩, .int .u64 0, .slice none 0 0, .int .i64 0] 35 (0, 0)) := by
  simp only [textW, alloc_at, alloc_size]
  (repeat rw [if_neg (by omega)])
  simp
theorem textW_3 (wA : World) (lab : Int) (a1 : ByteArray) (zi : Int) (by_ : ByteArray) (K C : Nat) : (textW wA lab a1 zi by_ K C).heap[wA.heap.size + 1 + 1 + 1]? = some (.cells #[.int .i64 8, .string ⟨#[]⟩, .slice none 0 0, .int .i64 0, .slice none 0 0, .slice none 0 0, .int .i64 0] 45 (0, 0)) := by
  simp only [textW, alloc_at, alloc_size]
  (repeat rw [if_neg (by omega)])
  simp
theorem textW_5 (wA : World) (lab : Int) (a1 : ByteArray) (zi : Int) (by_ : ByteArray) (K C : Nat) : (textW wA lab a1 zi by_ K C).heap[wA.heap.size + 1 + 1 + 1 + 1 + 1]? = some (.cells #[.bool false, .int .i64 lab, .string a1, .int .i64 zi, .string by_, .int .i64 0, .bool true, .int .i64 0, .string ⟨#[108]⟩, .int .i64 0, .string ⟨#[]⟩, .int .i64 0] 41 (0, 0)) := by
  simp only [textW, alloc_at, alloc_size]
  (repeat rw [if_neg (by omega)])
  simp
theorem textW_6 (wA : World) (lab : Int) (a1 : ByteArray) (zi : Int) (by_ : ByteArray) (K C : Nat) : (textW wA lab a1 zi by_ K C).heap[wA.heap.size + 1 + 1 + 1 + 1 + 1 + 1]? = some (.cells #[.int .i64 (K : Int), .string ⟨#[109]⟩, .slice (some ⟨wA.heap.size + 1 + 1, 0, none⟩) 2 2, .int .i64 (C : Int), .slice (some ⟨wA.heap.size + 1 + 1 + 1, 0, none⟩) 1 1, .slice none 0 0, .int .i64 0] 45 (0, 0)) := by
  simp only [textW, alloc_at, alloc_size]
  (repeat rw [if_neg (by omega)])
  simp
theorem textW_7 (wA : World) (lab : Int) (a1 : ByteArray) (zi : Int) (by_ : ByteArray) (K C : Nat) : (textW wA lab a1 zi by_ K C).heap[wA.heap.size + 1 + 1 + 1 + 1 + 1 + 1 + 1]? = some (.cells #[.slice (some ⟨wA.heap.size + 1 + 1 + 1 + 1 + 1 + 1, 0, none⟩) 1 1] 43 (0, 0)) := by
  simp only [textW, alloc_at, alloc_size]
  (repeat rw [if_neg (by omega)])
  simp
theorem textW_8 (wA : World) (lab : Int) (a1 : ByteArray) (zi : Int) (by_ : ByteArray) (K C : Nat) : (textW wA lab a1 zi by_ K C).heap[wA.heap.size + 1 + 1 + 1 + 1 + 1 + 1 + 1 + 1]? = some (.cells #[.slice (some ⟨wA.heap.size + 1 + 1 + 1 + 1 + 1, 0, none⟩) 2 2, .slice (some ⟨wA.heap.size + 1 + 1 + 1 + 1 + 1 + 1 + 1, 0, none⟩) 1 1] 49 (0, 0)) := by
  simp only [textW, alloc_at, alloc_size]
  (repeat rw [if_neg (by omega)])
  simp
theorem textW_9 (wA : World) (lab : Int) (a1 : ByteArray) (zi : Int) (by_ : ByteArray) (K C : Nat) : (textW wA lab a1 zi by_ K C).heap[wA.heap.size + 1 + 1 + 1 + 1 + 1 + 1 + 1 + 1 + 1]? = some (.cells #[.string (⟨#[9, 108, 111, 99, 97, 108, 32, 109, 32, 61, 32, 118, 59, 10]⟩), .string (⟨#[9, 109, 32, 61, 32, 118, 59, 10]⟩), .string (⟨#[9, 109, 91, 118, 93, 32, 61, 32, 118, 59, 10]⟩), .string (⟨#[9, 105, 102, 32, 40, 118, 41, 32, 123, 10, 9, 9, 102, 101, 110, 99, 101, 59, 10, 9, 125, 10]⟩), .string (⟨#[9, 108, 111, 111, 112, 32, 109, 32]⟩ ++ ⟨#[digitB C]⟩ ++ ⟨#[32, 123, 10, 9, 9, 102, 101, 110, 99, 101, 59, 10, 9, 125, 10]⟩), .string (⟨#[9, 116, 97, 107, 101, 32, 109, 59, 10]⟩), .string (⟨#[9, 103, 105, 118, 101, 32, 109, 59, 10]⟩), .string (⟨#[9, 97, 100, 100, 32, 109, 32, 118, 59, 10]⟩), .string (⟨#[9, 102, 101, 110, 99, 101, 59, 10]⟩), .string (⟨#[9, 111, 117, 116, 112, 117, 116, 32, 118, 59, 10]⟩), .string (⟨#[9, 111, 117, 116, 112, 117, 116, 32, 118, 59, 10]⟩)] 9 (0, 0)) := by
  simp only [textW, alloc_at, alloc_size]
  (repeat rw [if_neg (by omega)])
  simp
theorem textW_size (wA : World) (lab : Int) (a1 : ByteArray) (zi : Int) (by_ : ByteArray) (K C : Nat) : (textW wA lab a1 zi by_ K C).heap.size = wA.heap.size + 10 := by simp only [textW, alloc_size]
theorem textW_below (wA : World) (lab : Int) (a1 : ByteArray) (zi : Int) (by_ : ByteArray) (K C : Nat) : Below wA.heap.size wA (textW wA lab a1 zi by_ K C) :=
  ((((((((((Below.refl _ wA).alloc (Nat.le_refl _) _).alloc (by simp only [alloc_size]; omega) _).alloc (by simp only [alloc_size]; omega) _).alloc (by simp only [alloc_size]; omega) _).alloc (by simp only [alloc_size]; omega) _).alloc (by simp only [alloc_size]; omega) _).alloc (by simp only [alloc_size]; omega) _).alloc (by simp only [alloc_size]; omega) _).alloc (by simp only [alloc_size]; omega) _).alloc (by simp only [alloc_size]; omega) _
theorem stms0 {lo B : Nat} {w : World} {R : Value → Stm → Prop} : Stms lo B w R (.slice none 0 0) [] := ⟨none, 0, rfl, by simp, fun i k h => by simp at h⟩
theorem stms1 {lo B : Nat} {w : World} {R : Value → Stm → Prop} {g : Nat} {fr : Nat × Nat} {x0 x1 x2 x3 x4 x5 x6 : Value} {x : Stm} (hg : w.heap[g]? = some (.cells #[x0, x1, x2, x3, x4, x5, x6] 45 fr)) (hlo : lo ≤ g) (hB : g < B) (hx : R (.agg #[x0, x1, x2, x3, x4, x5, x6]) x) :
    Stms lo B w R (.slice (some ⟨g, 0, none⟩) 1 1) [x] := by
  refine ⟨_, _, rfl, by simp, fun i k h => ?_⟩
  match i, h with
  | 0, h => simp at h; subst h; exact ⟨g, 0, x0, x1, x2, x3, x4, x5, x6, rfl, hlo, hB, ⟨_, _, hg⟩, by simp [World.cell?, hg], by simp [World.cell?, hg], by simp [World.cell?, hg], by simp [World.cell?, hg], by simp [World.cell?, hg], by simp [World.cell?, hg], by simp [World.cell?, hg], hx⟩
theorem textW_on {W wr : World} {g : Nat} {o : Obj} (hr : Below W.heap.size W wr) (hl : g < W.heap.size) (h : W.heap[g]? = some o) : wr.heap[g]? = some o := (hr.block g hl).trans h
theorem textW_decls (wA : World) (lab : Int) (a1 : ByteArray) (zi : Int) (by_ : ByteArray) (K C : Nat) (h1 : a1.size ≤ 1048576) (h2 : by_.size ≤ 1048576) (hz : -9223372036854775808 ≤ zi ∧ zi ≤ 9223372036854775807) (wr : World) (hr : Below (textW wA lab a1 zi by_ K C).heap.size (textW wA lab a1 zi by_ K C) wr) : Dcls 0 wr.heap.size wr (.slice (some ⟨wA.heap.size + 1 + 1 + 1 + 1 + 1, 0, none⟩) 2 2) (prgS lab a1 zi by_ K C).decls := by
  have hs : wA.heap.size + 10 ≤ wr.heap.size := by have := hr.size; rw [textW_size] at this; exact this
  have hg := textW_on hr (by rw [textW_size]; omega) (textW_5 wA lab a1 zi by_ K C)
  refine ⟨_, _, rfl, by simp [prgS], fun i d h => ?_⟩
  match i, h with
  | 0, h => simp [prgS] at h; subst h; exact ⟨⟨hz.1, hz.2, by simp; omega, by simp; omega⟩, wA.heap.size + 1 + 1 + 1 + 1 + 1, 0, rfl, Nat.zero_le _, by omega, ⟨_, _, hg⟩, by rw [Lib.cell_of_heap hg]; rfl, by rw [Lib.cell_of_heap hg]; rfl, by rw [Lib.cell_of_heap hg]; rfl, by rw [Lib.cell_of_heap hg]; rfl, by rw [Lib.cell_of_heap hg]; rfl, by rw [Lib.cell_of_heap hg]; rfl⟩
  | 1, h => simp [prgS] at h; subst h; exact ⟨⟨by simp, by simp, by simp [ByteArray.size], by simp [ByteArray.size]⟩, wA.heap.size + 1 + 1 + 1 + 1 + 1, 0, rfl, Nat.zero_le _, by omega, ⟨_, _, hg⟩, by rw [Lib.cell_of_heap hg]; rfl, by rw [Lib.cell_of_heap hg]; rfl, by rw [Lib.cell_of_heap hg]; rfl, by rw [Lib.cell_of_heap hg]; rfl, by rw [Lib.cell_of_heap hg]; rfl, by rw [Lib.cell_of_heap hg]; rfl⟩
theorem textW_threads (wA : World) (lab : Int) (a1 : ByteArray) (zi : Int) (by_ : ByteArray) (K C : Nat) (hC : C ≤ 9) (wr : World) (hr : Below (textW wA lab a1 zi by_ K C).heap.size (textW wA lab a1 zi by_ K C) wr) : Thrs 0 wr.heap.size 1 2 wr (.slice (some ⟨wA.heap.size + 1 + 1 + 1 + 1 + 1 + 1 + 1, 0, none⟩) 1 1) (prgS lab a1 zi by_ K C).threads := by
  have hs : wA.heap.size + 10 ≤ wr.heap.size := by have := hr.size; rw [textW_size] at this; exact this
  have hg := textW_on hr (by rw [textW_size]; omega) (textW_7 wA lab a1 zi by_ K C)
  refine ⟨_, _, rfl, by simp [prgS], fun i ss h => ?_⟩
  match i, h with
  | 0, h =>
    simp [prgS] at h
    subst h
    refine ⟨wA.heap.size + 1 + 1 + 1 + 1 + 1 + 1 + 1, 0, _, _, rfl, Nat.zero_le _, by omega, ⟨_, _, hg⟩, by rw [Lib.cell_of_heap hg]; rfl, ?_⟩
    refine stms1 (textW_on hr (by rw [textW_size]; omega) (textW_6 wA lab a1 zi by_ K C)) (Nat.zero_le _) (by omega) ?_
    refine ⟨by simp [stmS], by simp [stmS]; omega, by simp [stmS, ByteArray.size], _, _, _, _, _, _, rfl, kids2 (textW_on hr (by rw [textW_size]; omega) (textW_2 wA lab a1 zi by_ K C)) (Nat.zero_le _) (by omega) (erep_name _) (erep_name _), stms1 (textW_on hr (by rw [textW_size]; omega) (textW_3 wA lab a1 zi by_ K C)) (Nat.zero_le _) (by omega) ?_, stms0⟩
    exact ⟨by simp [fenceS], by simp [fenceS], by simp [fenceS, ByteArray.size], _, _, _, _, _, _, rfl, kids0, stms0, stms0⟩
theorem stm_text (K C : Nat) (hK : K ≤ 10) (hC : C ≤ 9) : stext 1 2 1 (stmS K C) = bys (lineS C K) := by
  have hi : Lib.itoa (C : Int) = [UInt8.ofNat (48 + C)] := by rw [Lib.itoa_nonneg, Lib.decDigits_one (by omega)]
  have hd : digitB C = UInt8.ofNat (48 + C) := by unfold digitB; rw [Nat.mod_eq_of_lt (by omega)]
  match K, hK with
  | 0, _ | 1, _ | 2, _ | 3, _ | 5, _ | 6, _ | 7, _ | 8, _ | 9, _ | 10, _ => rfl
  | 4, _ =>
    rw [stext_4 1 1 1 _ rfl]
    simp only [lineS, bys_cat, stmS, hi, hd]
    rfl
def headS (lab : Int) (a1 : ByteArray) (zi : Int) (by_ : ByteArray) : ByteArray := (if lab = 0 then (⟨#[112, 117, 98, 108, 105, 99, 32]⟩ : ByteArray) else ⟨#[115, 101, 99, 114, 101, 116, 32]⟩) ++ a1 ++ (if 0 < zi then (⟨#[91]⟩ : ByteArray) ++ ⟨#[digitB zi.toNat]⟩ ++ ⟨#[93]⟩ else ⟨#[]⟩) ++ (if by_.size = 0 then (⟨#[]⟩ : ByteArray) else ⟨#[32, 98, 121, 32]⟩ ++ by_)
theorem line_len (K C : Nat) : (lineS C K).size ≤ 40 := by
  match K with
  | 0 | 1 | 2 | 3 | 5 | 6 | 7 | 8 | 9 => exact Nat.le_of_ble_eq_true rfl
  | 4 => simp [lineS, ByteArray.size]
  | n + 10 => simp [lineS, ByteArray.size]
theorem prg_text (lab : Int) (a1 : ByteArray) (zi : Int) (by_ : ByteArray) (K C : Nat) (hz : 0 ≤ zi ∧ zi ≤ 9) (hK : K ≤ 10) (hC : C ≤ 9) :
    ptext 1 2 (prgS lab a1 zi by_ K C) = bys (headS lab a1 zi by_ ++ ⟨#[59, 10, 108, 111, 99, 107, 32, 108, 59, 10, 116, 104, 114, 101, 97, 100, 32, 123, 10]⟩ ++ lineS C K ++ ⟨#[125, 10]⟩) := by
  have hi : Lib.itoa zi = [digitB zi.toNat] := by
    obtain ⟨n, rfl⟩ : ∃ n : Nat, zi = n := ⟨zi.toNat, by omega⟩
    rw [Lib.itoa_nonneg, Lib.decDigits_one (by omega)]
    unfold digitB
    rw [Int.toNat_natCast, Nat.mod_eq_of_lt (by omega)]
  have ht := stm_text K C hK hC
  have hd : dtext ⟨false, lab, a1, zi, by_, 0⟩ = bys (headS lab a1 zi by_) ++ [59, 10] := by
    unfold dtext headS
    simp only [bys_cat, hi]
    by_cases h1 : lab = 0 <;> by_cases h2 : 0 < zi <;> by_cases h3 : by_.size = 0 <;> simp [h1, h2, h3, bys, sPublic, sSecret, sBy]
  have hl : dtext ⟨true, 0, ⟨#[108]⟩, 0, ⟨#[]⟩, 0⟩ = [108, 111, 99, 107, 32, 108, 59, 10] := rfl
  have hb : btext 1 2 1 [stmS K C] = bys (lineS C K) := by
    rw [← ht]; simp [btext]
  simp only [ptext, prgS, List.map_cons, List.map_nil, List.flatten_cons, List.flatten_nil, hd, hl, ttext, hb, bys_cat]
  simp [bys, lineT, tabs, sThread]
theorem text_at (w : World) (wA : World) (lab : Int) (a1 : ByteArray) (zi : Int) (by_ : ByteArray) (K C : Nat) (h1 : a1.size ≤ 1048576) (h2 : by_.size ≤ 1048576) (hz : 0 ≤ zi ∧ zi ≤ 9) (hK : K ≤ 10) (hC : C ≤ 9) (hb : Below w.heap.size w wA) (hV : Vars w.heap.size w) (wr : World) (hr : Below (textW wA lab a1 zi by_ K C).heap.size (textW wA lab a1 zi by_ K C) wr) :
    Calls Tryd.prog 12 #[.agg #[.slice (some ⟨wA.heap.size + 1 + 1 + 1 + 1 + 1, 0, none⟩) 2 2, .slice (some ⟨wA.heap.size + 1 + 1 + 1 + 1 + 1 + 1 + 1, 0, none⟩) 1 1]] wr fun e w' => e = .returned (.string (headS lab a1 zi by_ ++ ⟨#[59, 10, 108, 111, 99, 107, 32, 108, 59, 10, 116, 104, 114, 101, 97, 100, 32, 123, 10]⟩ ++ lineS C K ++ ⟨#[125, 10]⟩)) ∧ Below wr.heap.size wr w' := by
  have hp := prg_text lab a1 zi by_ K C hz hK hC
  have hbr : Below w.heap.size w wr := hb.trans (((textW_below wA lab a1 zi by_ K C).mono hb.size).trans (hr.mono (Nat.le_trans hb.size (textW_below wA lab a1 zi by_ K C).size)))
  have := text_any 1 2 (prgS lab a1 zi by_ K C) _ _ wr (textW_decls wA lab a1 zi by_ K C h1 h2 (by omega) wr hr) (textW_threads wA lab a1 zi by_ K C hC wr hr) ((hV.on hbr).mono hbr.size) (by omega) (by rw [hp]; simp [bys_cat, bys]) (by
    rw [hp, bys_length]
    have hl := line_len K C
    have hh : (headS lab a1 zi by_).size ≤ 2097252 := by
      unfold headS
      simp only [ByteArray.size_append]
      have e1 : (if lab = 0 then (⟨#[112, 117, 98, 108, 105, 99, 32]⟩ : ByteArray) else ⟨#[115, 101, 99, 114, 101, 116, 32]⟩).size ≤ 7 := by split <;> decide
      have e2 : (if 0 < zi then (⟨#[91]⟩ : ByteArray) ++ ⟨#[digitB zi.toNat]⟩ ++ ⟨#[93]⟩ else ⟨#[]⟩).size ≤ 3 := by split <;> simp [ByteArray.size]
      have e3 : (if by_.size = 0 then (⟨#[]⟩ : ByteArray) else ⟨#[32, 98, 121, 32]⟩ ++ by_).size ≤ 4 + by_.size := by
        split
        · exact Nat.zero_le _
        · rw [ByteArray.size_append]; exact Nat.le_refl _
      omega
    simp only [ByteArray.size_append]
    have q1 : (⟨#[59, 10, 108, 111, 99, 107, 32, 108, 59, 10, 116, 104, 114, 101, 97, 100, 32, 123, 10]⟩ : ByteArray).size = 19 := rfl
    have q2 : (⟨#[125, 10]⟩ : ByteArray).size = 2 := rfl
    omega)
  rw [hp, bstr_bys] at this
  exact this
end Go.Proofs.YtbeflkadmehdlaaDoor
