/- The walk of FlowBound: on every input it returns true. Conditions: lex's variables, and that of errors, are as they are laid. -/
import Derived.Test.YtakjbndhijejkaaGreatDoorGFlD
import Derived.Test.YtakjbndhijejkaaGreatDoorHFlOwnB
import Derived.Test.YtakjbndhijejkaaGreatDoorIntsFrame
namespace Go.Proofs.YtakjbndhijejkaaGreatDoor.Fl
open Go.ChangeShapes Go.WideShapes Go.ChangeAt Go.RowKit
open Sc (Mng mnone put localM putAll Dc declM bad meansOf firstBad none0 ScAt KeepX DsAt OfPost)
set_option linter.unusedVariables false
set_option linter.unusedSimpArgs false

def iB : ByteArray := ⟨#[105]⟩
def bF (c : Int) : ByteArray -> Mng := put none0 iB (localM 0 c)
theorem bF_ok {c : Int} (h : 0 <= c /\ c < 256) : okF (bF c) := okF_enter okF_none _ _ _ (by omega)
theorem bF_okB {c : Int} (h : 0 <= c /\ c < 256) : okB (bF c) := fun s hs => by
  unfold bF put at hs ⊢
  split
  · unfold localM; split <;> simp only <;> omega
  · rename_i hne
    rw [if_neg hne] at hs
    simp [none0, mnone] at hs
def xT (O : Int) (A : Nat) : Tree := binT O (litT A) (nameT ⟨#[105]⟩)
def zsT (O P : Int) (A B C : Nat) : List Tree := [xT O A, binT P (xT O A) (litT B), nameT ⟨#[106]⟩, litT C, notT (xT O A)]
theorem zs_nm (O P : Int) (A B C : Nat) : ∀ z ∈ zsT O P A B C, nmE 4 z := fun z hz => by
  simp only [zsT, List.mem_cons, List.not_mem_nil, or_false] at hz
  rcases hz with rfl | rfl | rfl | rfl | rfl <;> exact nmE_of 4 _ rfl
@[reducible] def oA (A : Nat) : Obj := .cells #[.int .i64 0, .int .i64 0, .string ⟨#[]⟩, .int .u64 A, .slice none 0 0, .int .i64 0, .int .i64 1, .int .i64 0, .string ⟨#[105]⟩, .int .u64 0, .slice none 0 0, .int .i64 0] 50
@[reducible] def oX (q : Nat) (O : Int) : Obj := .cells #[.int .i64 3, .int .i64 O, .string ⟨#[]⟩, .int .u64 0, .slice (some ⟨q, 0, none⟩) 2 2, .int .i64 0] 50
@[reducible] def oB (q : Nat) (O : Int) (B : Nat) : Obj := .cells #[.int .i64 3, .int .i64 O, .string ⟨#[]⟩, .int .u64 0, .slice (some ⟨q, 0, none⟩) 2 2, .int .i64 0, .int .i64 0, .int .i64 0, .string ⟨#[]⟩, .int .u64 B, .slice none 0 0, .int .i64 0] 50
@[reducible] def oY (q : Nat) (P : Int) : Obj := .cells #[.int .i64 3, .int .i64 P, .string ⟨#[]⟩, .int .u64 0, .slice (some ⟨(q + 1 + 1), 0, none⟩) 2 2, .int .i64 0] 50
@[reducible] def oD (q : Nat) (O P : Int) (C : Nat) : Obj := .cells #[.int .i64 3, .int .i64 O, .string ⟨#[]⟩, .int .u64 0, .slice (some ⟨q, 0, none⟩) 2 2, .int .i64 0, .int .i64 3, .int .i64 P, .string ⟨#[]⟩, .int .u64 0, .slice (some ⟨(q + 1 + 1), 0, none⟩) 2 2, .int .i64 0, .int .i64 1, .int .i64 0, .string ⟨#[106]⟩, .int .u64 0, .slice none 0 0, .int .i64 0, .int .i64 0, .int .i64 0, .string ⟨#[]⟩, .int .u64 C, .slice none 0 0, .int .i64 0, .int .i64 4, .int .i64 0, .string ⟨#[]⟩, .int .u64 0, .slice (some ⟨(q + 1 + 1 + 1 + 1), 0, none⟩) 1 1, .int .i64 0] 50
@[reducible] def wZ (w : World) (O P : Int) (A B C : Nat) : World := (((((w.alloc (oA A)).alloc (oX w.heap.size O)).alloc (oB w.heap.size O B)).alloc (oY w.heap.size P)).alloc (oX w.heap.size O)).alloc (oD w.heap.size O P C)
theorem wZ_below (w : World) (O P : Int) (A B C : Nat) : Below w.heap.size w (wZ w O P A B C) :=
  ((((((Below.refl _ _).alloc (Nat.le_refl _) _).alloc (by simp) _).alloc (by simp; omega) _).alloc (by simp; omega) _).alloc (by simp; omega) _).alloc (by simp; omega) _
theorem wZ_size (w : World) (O P : Int) (A B C : Nat) : (wZ w O P A B C).heap.size = w.heap.size + 6 := by simp [wZ]
theorem zs_kids (w : World) (O P : Int) (A B C : Nat) (hA : A < 18446744073709551616) (hB : B < 18446744073709551616) (hC : C < 18446744073709551616) :
    Kids 0 (wZ w O P A B C).heap.size (wZ w O P A B C) (fun v' t' => ERep 0 (wZ w O P A B C).heap.size (wZ w O P A B C) 4 v' t') (.slice (some ⟨w.heap.size + 1 + 1 + 1 + 1 + 1, 0, none⟩) 5 5) (zsT O P A B C) := by
  obtain ⟨q, hq⟩ : ∃ q, q = w.heap.size := ⟨_, rfl⟩
  have hz := wZ_size w O P A B C
  have e0 : (wZ w O P A B C).heap[q]? = some (.cells #[.int .i64 0, .int .i64 0, .string ⟨#[]⟩, .int .u64 A, .slice none 0 0, .int .i64 0, .int .i64 1, .int .i64 0, .string ⟨#[105]⟩, .int .u64 0, .slice none 0 0, .int .i64 0] 50 (0, 0)) := by rw [hq]; exact alloc_keep (alloc_keep (alloc_keep (alloc_keep (alloc_keep (heap_alloc_new w (oA A)) _) _) _) _) _
  have e2 : (wZ w O P A B C).heap[q + 1 + 1]? = some (.cells #[.int .i64 3, .int .i64 O, .string ⟨#[]⟩, .int .u64 0, .slice (some ⟨q, 0, none⟩) 2 2, .int .i64 0, .int .i64 0, .int .i64 0, .string ⟨#[]⟩, .int .u64 B, .slice none 0 0, .int .i64 0] 50 (0, 0)) := by
    have h := alloc_keep (alloc_keep (alloc_keep (heap_alloc_new ((w.alloc (oA A)).alloc (oX w.heap.size O)) (oB w.heap.size O B)) (oY w.heap.size P)) (oX w.heap.size O)) (oD w.heap.size O P C)
    rw [alloc_size, alloc_size, <- hq] at h
    rw [wZ, <- hq]; exact h
  have e4 : (wZ w O P A B C).heap[q + 1 + 1 + 1 + 1]? = some (.cells #[.int .i64 3, .int .i64 O, .string ⟨#[]⟩, .int .u64 0, .slice (some ⟨q, 0, none⟩) 2 2, .int .i64 0] 50 (0, 0)) := by
    have h := alloc_keep (heap_alloc_new ((((w.alloc (oA A)).alloc (oX w.heap.size O)).alloc (oB w.heap.size O B)).alloc (oY w.heap.size P)) (oX w.heap.size O)) (oD w.heap.size O P C)
    rw [alloc_size, alloc_size, alloc_size, alloc_size, <- hq] at h
    rw [wZ, <- hq]; exact h
  have e5 : (wZ w O P A B C).heap[q + 1 + 1 + 1 + 1 + 1]? = some (.cells #[.int .i64 3, .int .i64 O, .string ⟨#[]⟩, .int .u64 0, .slice (some ⟨q, 0, none⟩) 2 2, .int .i64 0, .int .i64 3, .int .i64 P, .string ⟨#[]⟩, .int .u64 0, .slice (some ⟨(q + 1 + 1), 0, none⟩) 2 2, .int .i64 0, .int .i64 1, .int .i64 0, .string ⟨#[106]⟩, .int .u64 0, .slice none 0 0, .int .i64 0, .int .i64 0, .int .i64 0, .string ⟨#[]⟩, .int .u64 C, .slice none 0 0, .int .i64 0, .int .i64 4, .int .i64 0, .string ⟨#[]⟩, .int .u64 0, .slice (some ⟨(q + 1 + 1 + 1 + 1), 0, none⟩) 1 1, .int .i64 0] 50 (0, 0)) := by
    have h := heap_alloc_new (((((w.alloc (oA A)).alloc (oX w.heap.size O)).alloc (oB w.heap.size O B)).alloc (oY w.heap.size P)).alloc (oX w.heap.size O)) (oD w.heap.size O P C)
    rw [alloc_size, alloc_size, alloc_size, alloc_size, alloc_size, <- hq] at h
    rw [wZ, <- hq]; exact h
  rw [<- hq] at hz ⊢
  generalize wZ w O P A B C = W at e0 e2 e4 e5 hz ⊢
  have Ex : ∀ n, ERep 0 W.heap.size W (n + 2) (.agg #[.int .i64 3, .int .i64 O, .string ⟨#[]⟩, .int .u64 0, .slice (some ⟨q, 0, none⟩) 2 2, .int .i64 0]) (xT O A) := fun n => ⟨by show (0 : Nat) < _; decide, _, rfl, kids2 e0 (Nat.zero_le _) (by omega) (erep_lit hA) (erep_name _)⟩
  have Ey : ERep 0 W.heap.size W 4 (.agg #[.int .i64 3, .int .i64 P, .string ⟨#[]⟩, .int .u64 0, .slice (some ⟨(q + 1 + 1), 0, none⟩) 2 2, .int .i64 0]) (binT P (xT O A) (litT B)) := ⟨by show (0 : Nat) < _; decide, _, rfl, kids2 e2 (Nat.zero_le _) (by omega) (Ex 1) (erep_lit hB)⟩
  have En : ERep 0 W.heap.size W 4 (.agg #[.int .i64 4, .int .i64 0, .string ⟨#[]⟩, .int .u64 0, .slice (some ⟨(q + 1 + 1 + 1 + 1), 0, none⟩) 1 1, .int .i64 0]) (notT (xT O A)) := ⟨by show (0 : Nat) < _; decide, _, rfl, kids1 e4 (Nat.zero_le _) (by omega) (Ex 1)⟩
  refine ⟨_, _, rfl, by simp [zsT], fun i k h => ?_⟩
  match i, h with
  | 0, h => simp [zsT] at h; subst h; exact ⟨q + 1 + 1 + 1 + 1 + 1, 0, .int .i64 3, .int .i64 O, .string ⟨#[]⟩, .int .u64 0, .slice (some ⟨q, 0, none⟩) 2 2, .int .i64 0, rfl, Nat.zero_le _, by omega, ⟨_, _, e5⟩, by simp [World.cell?, e5], by simp [World.cell?, e5], by simp [World.cell?, e5], by simp [World.cell?, e5], by simp [World.cell?, e5], by simp [World.cell?, e5], Ex 2⟩
  | 1, h => simp [zsT] at h; subst h; exact ⟨q + 1 + 1 + 1 + 1 + 1, 0, .int .i64 3, .int .i64 P, .string ⟨#[]⟩, .int .u64 0, .slice (some ⟨(q + 1 + 1), 0, none⟩) 2 2, .int .i64 0, rfl, Nat.zero_le _, by omega, ⟨_, _, e5⟩, by simp [World.cell?, e5], by simp [World.cell?, e5], by simp [World.cell?, e5], by simp [World.cell?, e5], by simp [World.cell?, e5], by simp [World.cell?, e5], Ey⟩
  | 2, h => simp [zsT] at h; subst h; exact ⟨q + 1 + 1 + 1 + 1 + 1, 0, .int .i64 1, .int .i64 0, .string ⟨#[106]⟩, .int .u64 0, .slice none 0 0, .int .i64 0, rfl, Nat.zero_le _, by omega, ⟨_, _, e5⟩, by simp [World.cell?, e5], by simp [World.cell?, e5], by simp [World.cell?, e5], by simp [World.cell?, e5], by simp [World.cell?, e5], by simp [World.cell?, e5], erep_name _⟩
  | 3, h => simp [zsT] at h; subst h; exact ⟨q + 1 + 1 + 1 + 1 + 1, 0, .int .i64 0, .int .i64 0, .string ⟨#[]⟩, .int .u64 C, .slice none 0 0, .int .i64 0, rfl, Nat.zero_le _, by omega, ⟨_, _, e5⟩, by simp [World.cell?, e5], by simp [World.cell?, e5], by simp [World.cell?, e5], by simp [World.cell?, e5], by simp [World.cell?, e5], by simp [World.cell?, e5], erep_lit hC⟩
  | 4, h => simp [zsT] at h; subst h; exact ⟨q + 1 + 1 + 1 + 1 + 1, 0, .int .i64 4, .int .i64 0, .string ⟨#[]⟩, .int .u64 0, .slice (some ⟨(q + 1 + 1 + 1 + 1), 0, none⟩) 1 1, .int .i64 0, rfl, Nat.zero_le _, by omega, ⟨_, _, e5⟩, by simp [World.cell?, e5], by simp [World.cell?, e5], by simp [World.cell?, e5], by simp [World.cell?, e5], by simp [World.cell?, e5], by simp [World.cell?, e5], En⟩
  | i + 5, h => simp [zsT] at h
set_option maxHeartbeats 4000000 in
set_option maxRecDepth 100000 in
theorem bound_walk (a0 a1 a2 a3 : Int) (w : World) (b0 : 0 <= a0 /\ a0 < 256) (b1 : 0 <= a1 /\ a1 < 4294967296) (b2 : 0 <= a2 /\ a2 < 4294967296) (b3 : 0 <= a3 /\ a3 < 256) (hV : Lx.Vars w) (hTV : TypeVar w) :
    Calls Tryz.prog 6 #[.int .u8 a0, .int .u32 a1, .int .u32 a2, .int .u8 a3] w fun e w' => e = .returned (.bool true) /\ Below w.heap.size w w' := by
  have HA := awake_any w hV hTV
  have HO := fun w1 => Sc.of_any [] (.slice none 0 0) w1 (DsAt.nil w1) (by simp)
  obtain ⟨A, hA⟩ : ∃ A : Nat, a1 % 5000 = (A : Int) := ⟨(a1 % 5000).toNat, by omega⟩
  obtain ⟨B, rfl⟩ : ∃ B : Nat, a2 = (B : Int) := ⟨a2.toNat, by omega⟩
  obtain ⟨C, hC⟩ : ∃ C : Nat, (B : Int) * 1048576 = (C : Int) := ⟨B * 1048576, by omega⟩
  have hA9 : A < 18446744073709551616 := by omega
  have hB9 : B < 18446744073709551616 := by omega
  have hC9 : C < 18446744073709551616 := by omega
  obtain ⟨O, hO⟩ : ∃ O : Int, a3 % 12 = O := ⟨_, rfl⟩
  obtain ⟨P, hP⟩ : ∃ P : Int, a3 / 12 = P := ⟨_, rfl⟩
  clear hV hTV
  go_enter Tryz.func6, Tryz.ntmps6
  go_wp2_with fail
  go_at_call 11
  refine HA.mono ?_
  rintro e w1 ⟨rfl, hb1⟩
  go_wp2_with fail
  go_at_call 17
  refine (HO w1).mono ?_
  rintro e w2 ⟨hb2, ⟨_, bs, rfl, hS2⟩ | ⟨d, fb, h, _⟩⟩
  · have HE := Sc.enter_yes hS2 (fun k hk => Nat.lt_of_lt_of_le hk hb2.size) (by unfold maxLen; simp) (by simp) iB (by unfold iB maxLen; decide) 0 a0 rfl
    go_wp2_with fail
    go_at_call 18
    refine HE.mono ?_
    rintro e w3 ⟨rfl, hS3, hK3⟩
    go_wp2
    have h13 : Below w1.heap.size w1 w3 := hb2.trans (hK3.below hb2.size)
    have hbZ := wZ_below w3 O P A B C
    have hKZ := zs_kids w3 O P A B C hA9 hB9 hC9
    have hSZ : ScAt (· < w1.heap.size) bs 1 (bF a0) [iB] (wZ w3 O P A B C) := hS3.below hbZ
    obtain ⟨W, hW⟩ : ∃ W, W = wZ w3 O P A B C := ⟨_, rfl⟩
    rw [<- hW] at hbZ hKZ hSZ
    have h1W := h13.trans (hbZ.mono h13.size)
    obtain ⟨q5, hq5⟩ : ∃ q5, q5 = w3.heap.size + 1 + 1 + 1 + 1 + 1 := ⟨_, rfl⟩
    rw [<- hq5] at hKZ
    obtain ⟨zs, hzs⟩ : ∃ zs, zs = zsT O P A B C := ⟨_, rfl⟩
    have hnm : Hid (∀ z ∈ zs, nmE 4 z) := Lib.hid (by rw [hzs]; exact zs_nm O P A B C)
    have hl5 : zs.length = 5 := by rw [hzs]; rfl
    rw [<- hzs] at hKZ
    have HKZ := Lib.hid hKZ
    have HSZ := Lib.hid hSZ
    have hf := bF_ok b0
    have hfb := bF_okB b0
    have HF := Lib.hid hf
    have HFB := Lib.hid hfb
    clear hA hC hO hP hKZ hSZ hS3 hK3 hS2 HE HO HA hf hfb hzs hbZ
    subst hq5
    go_loopw [61] (fun i wr => ∃ k : Nat, k <= 5 /\ i = .int .i64 k /\ Below W.heap.size W wr) (fun i _ => 5 - (intOf i).toNat)
    case atStart => exact ⟨0, Nat.zero_le _, rfl, by rw [hW]; exact Below.refl _ _⟩
    case round =>
      clear hW
      obtain ⟨k, hk, rfl, hbr⟩ := hrel
      by_cases hlt : k < 5
      · obtain ⟨z, hz⟩ : ∃ z, zs[k]? = some z := ⟨zs[k], by simp [hl5, hlt]⟩
        have hzn := hnm.out z (List.mem_of_getElem? hz)
        have hKr := HKZ.out
        obtain ⟨_, _, er, _, hKr⟩ := hKr
        simp only [Value.slice.injEq] at er
        obtain ⟨rfl, -, rfl⟩ := er
        obtain ⟨g, off, c0, c1, c2, c3, c4, c5, eg, _, hg, _, i0, i1, i2, i3, i4, i5, hr⟩ := hKr k z hz
        cases eg
        have hRp := Lib.hid hr
        obtain ⟨_, kvz, hvz, ka, kc, rfl, _, _⟩ := hr
        simp only [Value.agg.injEq, Array.mk.injEq, List.cons.injEq, and_true] at hvz
        obtain ⟨rfl, rfl, rfl, rfl, rfl, rfl⟩ := hvz
        have ii := fun {o : Nat} {u : Value} (h : W.cell? ⟨w3.heap.size + 1 + 1 + 1 + 1 + 1, o, none⟩ = some u) => (hbr.cell (p := ⟨w3.heap.size + 1 + 1 + 1 + 1 + 1, o, none⟩) hg).trans h
        replace i0 := ii i0
        replace i1 := ii i1
        replace i2 := ii i2
        replace i3 := ii i3
        replace i4 := ii i4
        replace i5 := ii i5
        simp only [Nat.zero_add] at i0 i1 i2 i3 i4 i5
        have hbD : Below wr.heap.size wr (wr.alloc (.cells #[.int .i64 z.kind, .int .i64 z.op, .string z.name, .int .u64 z.value, .slice ka z.kids.length kc, .int .i64 z.at_] 50)) := (Below.refl _ _).alloc (Nat.le_refl _) _
        have hBD := hbr.trans (hbD.mono hbr.size)
        have CA := fun w9 (hb : Below W.heap.size W w9) => bound_all 4 _ bs 1 ⟨bF a0, [iB]⟩ _ z w9 (HSZ.out.below hb) HF.out (hRp.out.mono hb.size hb) hzn
        have CB := fun w9 (hb : Below W.heap.size W w9) => own_all 4 _ bs 1 ⟨bF a0, [iB]⟩ _ z w9 (HSZ.out.below hb) HF.out HFB.out (hRp.out.mono hb.size hb) hzn
        simp only at CA CB
        generalize boundP (bF a0) 4 z = b at CA CB
        clear hKr hz hzn hRp ii hl5
        go_wp2
        obtain ⟨w4, hw4⟩ : ∃ w4, w4 = wr.alloc (.cells #[.int .i64 z.kind, .int .i64 z.op, .string z.name, .int .u64 z.value, .slice ka z.kids.length kc, .int .i64 z.at_] 50) := ⟨_, rfl⟩
        have hZ4 : w4.heap[wr.heap.size]? = some (.cells #[.int .i64 z.kind, .int .i64 z.op, .string z.name, .int .u64 z.value, .slice ka z.kids.length kc, .int .i64 z.at_] 50 (0, 0)) := by rw [hw4]; exact heap_alloc_new _ _
        rw [<- hw4] at hBD ⊢
        have PA := fun w9 (hb : Below w4.heap.size w4 w9) => CA w9 (hBD.trans (hb.mono hBD.size))
        have PB := fun w9 (hb : Below w4.heap.size w4 w9) => CB w9 (hBD.trans (hb.mono hBD.size))
        clear hw4 hbD CA CB
        obtain ⟨wr0s, hwr0⟩ : ∃ n, n = wr.heap.size := ⟨_, rfl⟩
        rw [<- hwr0] at hZ4 ⊢
        clear hwr0
        refine wp_region_mono (by kernel_rfl) (by kernel_rfl) (by kernel_rfl) (by kernel_rfl) (by kernel_rfl) (fun (i : Nat) (v : Value) (wv : World) => match i with | 0 => v = .pointer (some ⟨bs, 0, none⟩) | 1 => v = .agg #[.int .i64 z.kind, .int .i64 z.op, .string z.name, .int .u64 z.value, .slice ka z.kids.length kc, .int .i64 z.at_] | 2 => v = .int .i64 b | 3 => v = .pointer (some ⟨bs, 0, none⟩) | 4 => v = .agg #[.int .i64 z.kind, .int .i64 z.op, .string z.name, .int .u64 z.value, .slice ka z.kids.length kc, .int .i64 z.at_] | 5 => v = .int .i64 b | 6 => v = .bool false | _ => True) ?_ [] (by kernel_rfl) ?_ ?_ ?_
        · intro i v w w' hb h
          match i with
          | 0 => exact h
          | 1 => exact h
          | 2 => exact h
          | 3 => exact h
          | 4 => exact h
          | 5 => exact h
          | 6 => exact h
          | _ + 7 => trivial
        · intro p hp v w h
          cases hp
        · intro a wr i op hop hb hF hP K hK
          have s9 : a.tmps[9]?.getD undef = .pointer (some ⟨bs, 0, none⟩) := (hF 9 (by kernel_rfl)).trans rfl
          have s14 : a.tmps[14]?.getD undef = .pointer (some ⟨wr0s, 0, none⟩) := (hF 14 (by kernel_rfl)).trans rfl
          obtain ⟨p0, p1, p2, p3, p4, p5⟩ := six_cells (keep hb hZ4)
          match i with
          | 0 =>
            obtain rfl := Option.some.inj hop
            go_simp
            exact hK _ _ (Below.refl _ _) fun _ => by first | rfl | exact wrap_val (by omega)
          | 1 =>
            obtain rfl := Option.some.inj hop
            go_simp
            exact hK _ _ (Below.refl _ _) fun _ => by first | rfl | exact wrap_val (by omega)
          | 2 =>
            obtain rfl := Option.some.inj hop
            have n0 : a.tmps[65]?.getD undef = .pointer (some ⟨bs, 0, none⟩) := hP 0 65 (by kernel_rfl) (by kernel_rfl)
            have n1 : a.tmps[66]?.getD undef = .agg #[.int .i64 z.kind, .int .i64 z.op, .string z.name, .int .u64 z.value, .slice ka z.kids.length kc, .int .i64 z.at_] := hP 1 66 (by kernel_rfl) (by kernel_rfl)
            go_simp
            go_at_call 19
            refine (PA wr hb).mono ?_
            rintro ed w9 ⟨rfl, hb9⟩
            go_simp
            exact hK _ _ hb9 fun _ => rfl
          | 3 =>
            obtain rfl := Option.some.inj hop
            go_simp
            exact hK _ _ (Below.refl _ _) fun _ => by first | rfl | exact wrap_val (by omega)
          | 4 =>
            obtain rfl := Option.some.inj hop
            go_simp
            exact hK _ _ (Below.refl _ _) fun _ => by first | rfl | exact wrap_val (by omega)
          | 5 =>
            obtain rfl := Option.some.inj hop
            have n3 : a.tmps[68]?.getD undef = .pointer (some ⟨bs, 0, none⟩) := hP 3 68 (by kernel_rfl) (by kernel_rfl)
            have n4 : a.tmps[69]?.getD undef = .agg #[.int .i64 z.kind, .int .i64 z.op, .string z.name, .int .u64 z.value, .slice ka z.kids.length kc, .int .i64 z.at_] := hP 4 69 (by kernel_rfl) (by kernel_rfl)
            go_simp
            go_at_call 20
            refine (PB wr hb).mono ?_
            rintro ed w9 ⟨rfl, hb9⟩
            go_simp
            exact hK _ _ hb9 fun _ => rfl
          | 6 =>
            obtain rfl := Option.some.inj hop
            have n2 : a.tmps[67]?.getD undef = .int .i64 b := hP 2 67 (by kernel_rfl) (by kernel_rfl)
            have n5 : a.tmps[70]?.getD undef = .int .i64 b := hP 5 70 (by kernel_rfl) (by kernel_rfl)
            go_simp
            exact hK _ _ (Below.refl _ _) fun _ => by first | rfl | exact wrap_val (by omega)
          | _ + 7 => simp at hop
        · intro V wz hbz hR
          have e6 : V 6 = .bool false := hR 6 (by kernel_rfl)
          clear hR PA PB
          refine at_all (prs [65, 66, 67, 68, 69, 70, 71] V) (fun t => by kernel_rfl) ?_
          simp only [prs, List.zipIdx, List.map, List.foldl, Nat.zero_add, Nat.reduceAdd, List.setIfInBounds_toArray, List.set_cons_zero, List.set_cons_succ, e6]
          go_wp2
          go_roundw
          case rel => exact ⟨k + 1, by omega, by go_num, hBD.trans (hbz.mono hBD.size)⟩
          case measure => simp [intOf]; omega
      · obtain rfl : k = 5 := by omega
        go_wp2
        go_ret
        exact ⟨rfl, hb1.trans ((h1W.trans (hbr.mono h1W.size)).mono hb1.size)⟩
  · simp [firstBad] at h
end Go.Proofs.YtakjbndhijejkaaGreatDoor.Fl
