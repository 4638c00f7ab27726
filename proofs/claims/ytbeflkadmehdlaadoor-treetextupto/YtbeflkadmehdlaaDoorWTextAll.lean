/- The walk of TreeText, its eight ways together: where its two texts have at most 1048576 bytes it returns true. Conditions: the table of powers holds what its initialiser lays. -/
import Derived.Test.YtbeflkadmehdlaaDoorWText1
import Derived.Test.YtbeflkadmehdlaaDoorWText2
import Derived.Test.YtbeflkadmehdlaaDoorWText3
import Derived.Test.YtbeflkadmehdlaaDoorWText4
import Derived.Test.YtbeflkadmehdlaaDoorWText5
import Derived.Test.YtbeflkadmehdlaaDoorWText6
import Derived.Test.YtbeflkadmehdlaaDoorWText7
namespace Go.Proofs.YtbeflkadmehdlaaDoor
open Go.ChangeShapes Go.WideShapes Go.ChangeAt Go.RowKit

theorem byte_wf {z : Int} (h : (Lit.int .u8 z).wf = true) : 0 ≤ z ∧ z < 256 := by
  simp [Lit.wf] at h
  have h1 : IntKind.u8.min = 0 := rfl
  have h2 : IntKind.u8.max = 255 := rfl
  omega
theorem text_walk (a0 : Int) (a1 a2 : ByteArray) (a3 a4 a5 : Int) (w : World) (n1 : a1.size ≤ 1048576) (n2 : a2.size ≤ 1048576) (w3 : (Lit.int .u8 a3).wf = true) (w4 : (Lit.int .u8 a4).wf = true) (w5 : (Lit.int .u8 a5).wf = true) (hV : Vars w.heap.size w) :
    Calls Tryd.prog 4 #[.int .i64 a0, .string a1, .string a2, .int .u8 a3, .int .u8 a4, .int .u8 a5] w fun e w' => e = .returned (.bool true) ∧ Below w.heap.size w w' := by
  have b3 := byte_wf w3
  have b4 := byte_wf w4
  have b5 := byte_wf w5
  obtain ⟨z, rfl⟩ : ∃ n : Nat, a3 = n := ⟨a3.toNat, by omega⟩
  obtain ⟨c, rfl⟩ : ∃ n : Nat, a4 = n := ⟨a4.toNat, by omega⟩
  obtain ⟨k, rfl⟩ : ∃ n : Nat, a5 = n := ⟨a5.toNat, by omega⟩
  have hz : z < 256 := by omega
  have hc : c < 256 := by omega
  have hk : k < 256 := by omega
  obtain ⟨K, hK, hKI⟩ : ∃ K : Nat, K ≤ 10 ∧ (k : Int) % 11 = (K : Int) := ⟨k % 11, by omega, by omega⟩
  obtain ⟨C, hC, hCI⟩ : ∃ C : Nat, C ≤ 9 ∧ (c : Int) % 10 = (C : Int) := ⟨c % 10, by omega, by omega⟩
  obtain ⟨Z, hZ, hZI⟩ : ∃ Z : Nat, Z ≤ 2 ∧ (z : Int) % 3 = (Z : Int) := ⟨z % 3, by omega, by omega⟩
  have hK2 : (K : Int) < 11 := by omega
  by_cases h0 : a0 = 0
  · subst h0
    by_cases h1 : (Z : Int) = 0
    · rw [h1] at hZI
      by_cases h2 : a2.size = 0
      · obtain rfl := size_zero h2
        exact text_way0 a1 z c k K C hZI w n1 hz hc hk hK hC hKI hCI hK2 hV
      · exact text_way1 a1 z c k K C a2 n2 h2 hZI w n1 hz hc hk hK hC hKI hCI hK2 hV
    · by_cases h2 : a2.size = 0
      · obtain rfl := size_zero h2
        exact text_way2 a1 z c k K C Z hZ h1 hZI w n1 hz hc hk hK hC hKI hCI hK2 hV
      · exact text_way3 a1 z c k K C a2 n2 h2 Z hZ h1 hZI w n1 hz hc hk hK hC hKI hCI hK2 hV
  · by_cases h1 : (Z : Int) = 0
    · rw [h1] at hZI
      by_cases h2 : a2.size = 0
      · obtain rfl := size_zero h2
        exact text_way4 a0 a1 z c k K C hZI h0 w n1 hz hc hk hK hC hKI hCI hK2 hV
      · exact text_way5 a0 a1 z c k K C a2 n2 h2 hZI h0 w n1 hz hc hk hK hC hKI hCI hK2 hV
    · by_cases h2 : a2.size = 0
      · obtain rfl := size_zero h2
        exact text_way6 a0 a1 z c k K C Z hZ h1 hZI h0 w n1 hz hc hk hK hC hKI hCI hK2 hV
      · exact text_way7 a0 a1 z c k K C a2 n2 h2 Z hZ h1 hZI h0 w n1 hz hc hk hK hC hKI hCI hK2 hV
end Go.Proofs.YtbeflkadmehdlaaDoor
