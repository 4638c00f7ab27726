/- Own texts laid together: CoRef, CoRefM, CoRefB. Conditions: as each theorem says. -/
import Derived.Test.YtclmeachbojopaaGreatDoorGCoA
import Derived.Test.YtclmeachbojopaaGreatDoorGPBackAll
import Derived.Lib.MinMax
set_option linter.unusedVariables false
set_option linter.unusedSimpArgs false
namespace Go.Proofs.YtclmeachbojopaaGreatDoor.Co
open Pr (gT gS)
def total {α : Type} (f : α -> Nat) (xs : List α) : Nat := (xs.map f).sum
theorem total_snoc {α : Type} (f : α -> Nat) (xs : List α) (k : Nat) (x : α) (h : xs[k]? = some x) : total f (xs.take (k + 1)) = total f (xs.take k) + f x := by
  have e : xs.take (k + 1) = xs.take k ++ [x] := by rw [List.take_add_one, h]; rfl
  unfold total
  rw [e, List.map_append, List.sum_append, List.map_singleton, List.sum_singleton]
theorem total_take {α : Type} (f : α -> Nat) (xs : List α) (k : Nat) : total f (xs.take k) <= total f xs := sum_take_le f xs k
def sat {α : Type} (f : α -> Nat) (xs : List α) : Nat := min (total f xs) 1099511627776
theorem sat_le {α : Type} (f : α -> Nat) (xs : List α) : sat f xs <= 1099511627776 := Nat.min_le_right _ _
theorem sat_nil {α : Type} (f : α -> Nat) : sat f [] = 0 := rfl
theorem sat_snoc {α : Type} (f : α -> Nat) (xs : List α) (k : Nat) (x : α) (h : xs[k]? = some x) : sat f (xs.take (k + 1)) = min (sat f (xs.take k) + f x) 1099511627776 := by
  unfold sat
  rw [total_snoc f xs k x h]
  omega
def lexpr : Nat -> Tree -> Nat
  | 0, _ => 0
  | n + 1, t => 1 + total (lexpr n) t.kids
def lstmt (m : Nat) : Nat -> Stm -> Nat
  | 0, _ => 0
  | n + 1, s => 4 + total (lexpr m) s.exprs + (if s.kind = 4 then s.count.toNat * (sat (lstmt m n) s.body + sat (lstmt m n) s.els + 4) else sat (lstmt m n) s.body + sat (lstmt m n) s.els)
def lblock (m n : Nat) (ss : List Stm) : Nat := sat (lstmt m n) ss
theorem lexpr_le : ∀ (n : Nat) (t : Tree), gT n t -> lexpr n t <= 4 ^ n
  | 0, t, h => h.elim
  | n + 1, t, h => by
    have ih := lexpr_le n
    have hp : 1 <= 4 ^ n := Nat.pos_of_ne_zero (by simp)
    have hpow : (4 : Nat) ^ (n + 1) = 4 * 4 ^ n := by rw [Nat.pow_succ]; omega
    show 1 + total (lexpr n) t.kids <= _
    rw [hpow]
    rcases h with ⟨_, _, _, _, hk⟩ | ⟨_, _, _, _, hk⟩ | ⟨_, _, _, _, a, hk, ha⟩ | ⟨_, _, _, _, _, a, b, hk, ha, hb⟩ | ⟨_, _, _, _, a, hk, ha⟩ | ⟨_, _, _, _, a, b, c, hk, ha, hb, hc⟩ <;> rw [hk] <;> simp only [total, List.map_cons, List.map_nil, List.sum_cons, List.sum_nil]
    · omega
    · omega
    · have := ih a ha; omega
    · have := ih a ha; have := ih b hb; omega
    · have := ih a ha; omega
    · have := ih a ha; have := ih b hb; have := ih c hc; omega
theorem gT_kids {n : Nat} {t : Tree} (h : gT (n + 1) t) : ∀ k ∈ t.kids, gT n k := by
  intro k hk
  rcases h with ⟨_, _, _, _, e⟩ | ⟨_, _, _, _, e⟩ | ⟨_, _, _, _, a, e, ha⟩ | ⟨_, _, _, _, _, a, b, e, ha, hb⟩ | ⟨_, _, _, _, a, e, ha⟩ | ⟨_, _, _, _, a, b, c, e, ha, hb, hc⟩ <;> rw [e] at hk <;> simp at hk
  · subst hk; exact ha
  · rcases hk with rfl | rfl
    · exact ha
    · exact hb
  · subst hk; exact ha
  · rcases hk with rfl | rfl | rfl
    · exact ha
    · exact hb
    · exact hc
theorem gS_parts {m n : Nat} {s : Stm} (h : gS m (n + 1) s) : (∀ e ∈ s.exprs, gT m e) /\ s.exprs.length <= 2 /\ (∃ c : Nat, s.count = c /\ c <= 256) /\ (∀ x ∈ s.body, gS m n x) /\ ∀ x ∈ s.els, gS m n x := by
  rcases h with ⟨_, _, ⟨e, h1, h2⟩, h3, h4, h5⟩ | ⟨_, _, ⟨e, h1, h2⟩, h3, h4, h5⟩ | ⟨_, _, ⟨a, b, h1, h2, h2'⟩, h3, h4, h5⟩ | ⟨_, _, ⟨e, h1, h2⟩, h3, h4, h5⟩ | ⟨_, _, h1, ⟨c, h3, _, h3'⟩, h4, h5⟩ | ⟨_, _, h1, h3, h4, h5⟩ | ⟨_, _, h1, h3, h4, h5⟩ | ⟨_, _, ⟨e, h1, h2⟩, h3, h4, h5⟩ | ⟨_, _, h1, h3, h4, h5⟩ | ⟨_, _, ⟨e, h1, h2⟩, h3, h4, h5⟩
  · exact ⟨by rw [h1]; simpa using h2, by rw [h1]; simp, ⟨0, h3, by omega⟩, by rw [h4]; simp, by rw [h5]; simp⟩
  · exact ⟨by rw [h1]; simpa using h2, by rw [h1]; simp, ⟨0, h3, by omega⟩, by rw [h4]; simp, by rw [h5]; simp⟩
  · exact ⟨by rw [h1]; simpa using ⟨h2, h2'⟩, by rw [h1]; simp, ⟨0, h3, by omega⟩, by rw [h4]; simp, by rw [h5]; simp⟩
  · exact ⟨by rw [h1]; simpa using h2, by rw [h1]; simp, ⟨0, h3, by omega⟩, h4, h5⟩
  · exact ⟨by rw [h1]; simp, by rw [h1]; simp, ⟨c, h3, h3'⟩, h4, by rw [h5]; simp⟩
  · exact ⟨by rw [h1]; simp, by rw [h1]; simp, ⟨0, h3, by omega⟩, by rw [h4]; simp, by rw [h5]; simp⟩
  · exact ⟨by rw [h1]; simp, by rw [h1]; simp, ⟨0, h3, by omega⟩, by rw [h4]; simp, by rw [h5]; simp⟩
  · exact ⟨by rw [h1]; simpa using h2, by rw [h1]; simp, ⟨0, h3, by omega⟩, by rw [h4]; simp, by rw [h5]; simp⟩
  · exact ⟨by rw [h1]; simp, by rw [h1]; simp, ⟨0, h3, by omega⟩, by rw [h4]; simp, by rw [h5]; simp⟩
  · exact ⟨by rw [h1]; simpa using h2, by rw [h1]; simp, ⟨0, h3, by omega⟩, by rw [h4]; simp, by rw [h5]; simp⟩
theorem total_le {α : Type} (f : α -> Nat) (B : Nat) : ∀ (xs : List α), (∀ x ∈ xs, f x <= B) -> total f xs <= xs.length * B
  | [], _ => by simp [total]
  | x :: xs, h => by
    have ih := total_le f B xs fun y hy => h y (List.mem_cons_of_mem _ hy)
    have hx := h x (List.mem_cons_self)
    have e : total f (x :: xs) = f x + total f xs := by simp [total]
    rw [e, List.length_cons, Nat.succ_mul]
    omega
theorem total_min {α : Type} (f g : α -> Nat) : ∀ (xs : List α), (∀ x ∈ xs, g x = min (f x) 1048577) -> min (total g xs) 1048577 = min (total f xs) 1048577
  | [], _ => rfl
  | x :: xs, h => by
    have ih := total_min f g xs fun y hy => h y (List.mem_cons_of_mem _ hy)
    have hx := h x (List.mem_cons_self)
    have e1 : total f (x :: xs) = f x + total f xs := by simp [total]
    have e2 : total g (x :: xs) = g x + total g xs := by simp [total]
    rw [e1, e2, hx]
    omega
theorem ecost_min : ∀ (n : Nat) (t : Tree), ecost n t = min (lexpr n t) 1048577
  | 0, t => rfl
  | n + 1, t => by
    have ih := total_min (lexpr n) (ecost n) t.kids fun x _ => ecost_min n x
    show min (1 + min (total (ecost n) t.kids) 1048577) 1048577 = min (1 + total (lexpr n) t.kids) 1048577
    omega
theorem mul_min (c a b : Nat) (h : min a 1048577 = min b 1048577) : min (c * a) 1048577 = min (c * b) 1048577 := by
  rcases Nat.lt_or_ge a 1048577 with ha | ha
  · have : a = b := by omega
    rw [this]
  · have hb : 1048577 <= b := by omega
    rcases Nat.eq_zero_or_pos c with rfl | hc
    · simp
    · have h1 : a <= c * a := Nat.le_mul_of_pos_left a hc
      have h2 : b <= c * b := Nat.le_mul_of_pos_left b hc
      omega
theorem cost_arith (k : Int) (c a a' b b' e e' : Nat) (d : Decidable (k = 4)) (h1 : min a' 1048577 = min a 1048577) (h2 : min b' 1048577 = min b 1048577) (h3 : min e' 1048577 = min e 1048577) :
    min (4 + min a' 1048577 + (if k = 4 then c * (4 + min (min b' 1048577 + min e' 1048577) 1048577) else min (min b' 1048577 + min e' 1048577) 1048577)) 1048577 = min (4 + a + (if k = 4 then c * (min b 1099511627776 + min e 1099511627776 + 4) else min b 1099511627776 + min e 1099511627776)) 1048577 := by
  split
  · have h := mul_min c (4 + min (min b' 1048577 + min e' 1048577) 1048577) (min b 1099511627776 + min e 1099511627776 + 4) (by omega)
    generalize c * (4 + min (min b' 1048577 + min e' 1048577) 1048577) = A at *
    generalize c * (min b 1099511627776 + min e 1099511627776 + 4) = B at *
    omega
  · omega
theorem scost_min (m : Nat) : ∀ (n : Nat) (s : Stm), gS m n s -> scost m n s = min (lstmt m n s) 1048577
  | 0, s, h => h.elim
  | n + 1, s, h => by
    obtain ⟨_, _, ⟨c, hc, hc2⟩, hb, he⟩ := gS_parts h
    have i1 := total_min (lexpr m) (ecost m) s.exprs fun x _ => ecost_min m x
    have i2 := total_min (lstmt m n) (scost m n) s.body fun x hx => scost_min m n x (hb x hx)
    have i3 := total_min (lstmt m n) (scost m n) s.els fun x hx => scost_min m n x (he x hx)
    have hr : rounds s.count = s.count.toNat := by unfold rounds; omega
    show min (4 + min (total (ecost m) s.exprs) 1048577 + innerc s.kind s.count (two (min (total (scost m n) s.body) 1048577) (min (total (scost m n) s.els) 1048577))) 1048577 = min (4 + total (lexpr m) s.exprs + (if s.kind = 4 then s.count.toNat * (sat (lstmt m n) s.body + sat (lstmt m n) s.els + 4) else sat (lstmt m n) s.body + sat (lstmt m n) s.els)) 1048577
    unfold innerc two sat
    rw [hr]
    exact cost_arith _ _ _ _ _ _ _ _ _ i1 i2 i3
theorem bcost_min (m n : Nat) (ss : List Stm) (h : ∀ x ∈ ss, gS m n x) : bcost m n ss = min (lblock m n ss) 1048577 := by
  have i := total_min (lstmt m n) (scost m n) ss fun x hx => scost_min m n x (h x hx)
  show min (total (scost m n) ss) 1048577 = min (min (total (lstmt m n) ss) 1099511627776) 1048577
  omega
end Go.Proofs.YtclmeachbojopaaGreatDoor.Co
namespace Go.Proofs.YtclmeachbojopaaGreatDoor.Co
open Go.ChangeShapes Go.WideShapes Go.ChangeAt Go.RowKit
open Pr (gT gS)
def RExpr (n : Nat) : Prop := ∀ (v : Value) (t : Tree) (w : World), ERep 0 w.heap.size w n v t -> gT n t ->
  Calls Tryz.prog 13 #[v] w fun e w' => e = .returned (.int .i64 (lexpr n t : Nat)) /\ Below w.heap.size w w'
theorem pow_le {n : Nat} (h : n <= 13) : 4 ^ n <= 67108864 := by
  calc 4 ^ n <= 4 ^ 13 := Nat.pow_le_pow_right (by omega) h
    _ = 67108864 := by decide
set_option maxHeartbeats 2000000 in
set_option maxRecDepth 100000 in
theorem rexpr_succ {n : Nat} (hn : n < 13) (ih : RExpr n) : RExpr (n + 1) := fun v t w hE hG => by
  have hall := lexpr_le (n + 1) t hG
  have hpw := pow_le (n := n + 1) (by omega)
  have HKG := Lib.hid (gT_kids hG)
  obtain ⟨hv, kv, rfl, hK⟩ := hE
  have HK := Lib.hid hK
  obtain ⟨ao, cap, rfl, hl, _⟩ := hK
  have he : lexpr (n + 1) t = 1 + total (lexpr n) t.kids := rfl
  rw [he] at hall
  have HE := Lib.hid he
  clear he hG
  have hb0 : Below w.heap.size w (w.alloc (.cells #[.int .i64 t.kind, .int .i64 t.op, .string t.name, .int .u64 t.value, .slice ao t.kids.length cap, .int .i64 t.at_] 40)) := (Below.refl _ _).alloc (Nat.le_refl _) _
  go_enter Tryz.func13, Tryz.ntmps13
  go_wp2
  go_loopw [3, 9] (fun s i wr => ∃ k : Nat, k <= t.kids.length /\ i = .int .i64 k /\ s = .int .i64 (1 + total (lexpr n) (t.kids.take k) : Nat) /\ Below w.heap.size w wr) (fun _ i _ => t.kids.length - (intOf i).toNat)
  case atStart => exact ⟨0, Nat.zero_le _, rfl, by simp [total], hb0⟩
  case round =>
    obtain ⟨k, hk, rfl, rfl, hbr⟩ := hrel
    have hzr := hbr.size
    by_cases hlt : k < t.kids.length
    · obtain ⟨x, hx⟩ : ∃ x, t.kids[k]? = some x := ⟨t.kids[k], by simp [hlt]⟩
      obtain ⟨_, _, e, _, hKr⟩ := HK.out.on hbr
      cases e
      obtain ⟨g, off, c0, c1, c2, c3, c4, c5, rfl, _, hg, _, h0, h1, h2, h3, h4, h5, hr⟩ := hKr k x hx
      have hgr : g < wr.heap.size := by omega
      have hR := Lib.hid hr
      cases n with
      | zero => exact hr.elim
      | succ n =>
      obtain ⟨hv1, kvx, hv, kax, kcx, rfl, _, _⟩ := hr
      simp only [Value.agg.injEq, Array.mk.injEq, List.cons.injEq, and_true] at hv
      obtain ⟨rfl, rfl, rfl, rfl, rfl, rfl⟩ := hv
      have P : ∀ o, Calls Tryz.prog 13 #[.agg #[.int .i64 x.kind, .int .i64 x.op, .string x.name, .int .u64 x.value, .slice kax x.kids.length kcx, .int .i64 x.at_]] (wr.alloc o) _ := fun o =>
        ih _ x (wr.alloc o) (hR.out.mono (by rw [alloc_size]; omega) ((Below.refl _ _).alloc (by omega) o)) (HKG.out x (List.mem_of_getElem? hx))
      have hs := total_snoc (lexpr (n + 1)) t.kids k x hx
      have hle := total_take (lexpr (n + 1)) t.kids (k + 1)
      rw [hs] at hle
      have HS := Lib.hid hs
      clear hKr hx hs
      generalize total (lexpr (n + 1)) (t.kids.take k) = s at HS hle ⊢
      generalize lexpr (n + 1) x = c at HS hle P ⊢
      have hle2 : s + c <= 67108864 := by omega
      clear hle hall hpw
      go_wp2_with (go_at_call 13; refine (P _).mono ?_; rintro e w1 ⟨rfl, hb1⟩)
      go_roundw
      case rel =>
        refine ⟨k + 1, by omega, by go_num, ?_, ?_⟩
        · rw [HS.out]; go_num
        · exact (hbr.alloc hzr _).trans (hb1.mono (by rw [alloc_size]; omega))
      case measure => simp [intOf]; omega
    · obtain rfl : k = t.kids.length := by omega
      go_wp2
      go_ret
      exact ⟨by rw [List.take_length, HE.out]; rfl, hbr⟩
theorem rexpr_all : ∀ n, n <= 13 -> RExpr n
  | 0, _ => fun v t w h _ => h.elim
  | n + 1, h => rexpr_succ (by omega) (rexpr_all n (by omega))
def RBlk (m n : Nat) : Prop := ∀ (v : Value) (ss : List Stm) (w : World), Stms 0 w.heap.size w (fun v' s' => SRep 0 w.heap.size w m n v' s') v ss -> (∀ x ∈ ss, gS m n x) ->
  Calls Tryz.prog 10 #[v] w fun e w' => e = .returned (.int .i64 (lblock m n ss : Nat)) /\ Below w.heap.size w w'
theorem prod_le (c b : Nat) (hc : c <= 256) (hb : b <= 2199023255552) : c * (b + 4) <= 562949953422336 := by
  calc c * (b + 4) <= 256 * (b + 4) := Nat.mul_le_mul_right _ hc
    _ <= 256 * (2199023255552 + 4) := Nat.mul_le_mul_left _ (by omega)
    _ = 562949953422336 := by decide
theorem lstmt_loop (m n : Nat) (s : Stm) (c E B : Nat) (hc : s.count = c) (hE : total (lexpr m) s.exprs = E) (hB : sat (lstmt m n) s.body + sat (lstmt m n) s.els = B) (hk : s.kind = 4) : lstmt m (n + 1) s = 4 + E + c * (B + 4) := by
  simp [lstmt, hk, hc, hE, hB]
theorem lstmt_else (m n : Nat) (s : Stm) (E B : Nat) (hE : total (lexpr m) s.exprs = E) (hB : sat (lstmt m n) s.body + sat (lstmt m n) s.els = B) (hk : ¬ s.kind = 4) : lstmt m (n + 1) s = 4 + E + B := by
  simp [lstmt, hk, hE, hB]
set_option maxHeartbeats 4000000 in
set_option maxRecDepth 100000 in
theorem rblock_of {m n : Nat} (hm : m <= 13) (ih : ∀ n', n = n' + 1 -> RBlk m n') : RBlk m n := fun v ss w hS hG => by
  have HK := Lib.hid hS
  have HG := Lib.hid hG
  obtain ⟨ao, cap, rfl, hl, _⟩ := hS
  clear hG
  go_enter Tryz.func10, Tryz.ntmps10
  go_wp2
  go_loopw [3, 11] (fun s i wr => ∃ k : Nat, k <= ss.length /\ i = .int .i64 k /\ s = .int .i64 (sat (lstmt m n) (ss.take k) : Nat) /\ Below w.heap.size w wr) (fun _ i _ => ss.length - (intOf i).toNat)
  case atStart => exact ⟨0, Nat.zero_le _, rfl, rfl, Below.refl _ _⟩
  case round =>
    obtain ⟨k, hk, rfl, rfl, hbr⟩ := hrel
    obtain ⟨wq, rfl⟩ : ∃ wq, wq = wr := ⟨wr, rfl⟩
    have hzr := hbr.size
    by_cases hlt : k < ss.length
    · obtain ⟨x, hx⟩ : ∃ x, ss[k]? = some x := ⟨ss[k], by simp [hlt]⟩
      obtain ⟨_, _, e, _, hKr⟩ := (stms_later HK.out hbr)
      cases e
      obtain ⟨g, off, c0, c1, c2, c3, c4, c5, c6, rfl, _, hg, _, h0, h1, h2, h3, h4, h5, h6, hr⟩ := hKr k x hx
      have hgr : g < wq.heap.size := by omega
      cases n with
      | zero => exact hr.elim
      | succ n =>
      obtain ⟨_, _, _, ea, ec, ba, bc, la, lc, hv, hE, hB, hL⟩ := hr
      simp only [Value.agg.injEq, Array.mk.injEq, List.cons.injEq, and_true] at hv
      obtain ⟨rfl, rfl, rfl, rfl, rfl, rfl, rfl⟩ := hv
      obtain ⟨gE, gl, ⟨c, hc, hc2⟩, gB, gL⟩ := gS_parts (HG.out x (List.mem_of_getElem? hx))
      have RB := ih n rfl
      have hs := sat_snoc (lstmt m (n + 1)) ss k x hx
      have hA := sat_le (lstmt m (n + 1)) (ss.take k)
      have hEt : total (lexpr m) x.exprs <= 134217728 := by
        have := total_le (lexpr m) 67108864 x.exprs fun e he => Nat.le_trans (lexpr_le m e (gE e he)) (pow_le hm)
        have := Nat.mul_le_mul_right 67108864 gl
        omega
      obtain ⟨Et, hEt'⟩ : ∃ t, total (lexpr m) x.exprs = t := ⟨_, rfl⟩
      obtain ⟨Bt, hBt⟩ : ∃ t, sat (lstmt m n) x.body + sat (lstmt m n) x.els = t := ⟨_, rfl⟩
      have hB1 := sat_le (lstmt m n) x.body
      have hB2 := sat_le (lstmt m n) x.els
      have LL := Lib.hid (lstmt_loop m n x c Et Bt (hc := hc) (hE := hEt') (hB := hBt))
      have LE := Lib.hid (lstmt_else m n x Et Bt (hE := hEt') (hB := hBt))
      rw [hc] at h3
      have HS := Lib.hid hs
      have HE := Lib.hid hE
      have HB := Lib.hid hB
      have HL := Lib.hid hL
      have GE := Lib.hid gE
      have GB := Lib.hid gB
      have GL := Lib.hid gL
      have HEt := Lib.hid hEt'
      have HBt := Lib.hid hBt
      obtain ⟨K, hK⟩ : ∃ K, x.kind = K := ⟨_, rfl⟩
      rw [hK] at h0
      have HKd := Lib.hid hK
      have hEl : x.exprs.length <= 2 := gl
      rw [hEt'] at hEt
      obtain ⟨s, hsE⟩ : ∃ s, sat (lstmt m (n + 1)) (ss.take k) = s := ⟨_, rfl⟩
      rw [hsE] at HS hA ⊢
      clear hKr hx hs hE hB hL gE gB gL hEt' hBt gl hc hK hsE
      go_wp2
      go_loopw [3, 20] (fun t i wr => ∃ j : Nat, j <= x.exprs.length /\ i = .int .i64 j /\ t = .int .i64 (s + 4 + total (lexpr m) (x.exprs.take j) : Nat) /\ Below (wq.alloc (.cells #[.int .i64 K, .string x.name, .slice ea x.exprs.length ec, .int .i64 (c : Int), .slice ba x.body.length bc, .slice la x.els.length lc, .int .i64 x.at_] 34)).heap.size (wq.alloc (.cells #[.int .i64 K, .string x.name, .slice ea x.exprs.length ec, .int .i64 (c : Int), .slice ba x.body.length bc, .slice la x.els.length lc, .int .i64 x.at_] 34)) wr) (fun _ i _ => x.exprs.length - (intOf i).toNat)
      case atStart => exact ⟨0, Nat.zero_le _, rfl, by simp [total], Below.refl _ _⟩
      case round =>
        obtain ⟨j, hj, rfl, rfl, hb2⟩ := hrel
        have hbw2 : Below wq.heap.size wq wr := ((Below.refl _ _).alloc (Nat.le_refl _) _).trans (hb2.mono (by rw [alloc_size]; omega))
        have hz2 := hb2.size
        rw [alloc_size] at hz2
        by_cases hjl : j < x.exprs.length
        · obtain ⟨y, hy⟩ : ∃ y, x.exprs[j]? = some y := ⟨x.exprs[j], by simp [hjl]⟩
          have HEy := Lib.hid (GE.out y (List.mem_of_getElem? hy))
          obtain ⟨_, _, e, _, hKy⟩ := (kids_later HE.out hbw2)
          cases e
          obtain ⟨gy, oy, y0, y1, y2, y3, y4, y5, rfl, _, hgy, _, i0, i1, i2, i3, i4, i5, ry⟩ := hKy j y hy
          have hR := Lib.hid ry
          cases m with
          | zero => exact ry.elim
          | succ m =>
          obtain ⟨_, kvy, hv, kay, kcy, rfl, _, _⟩ := ry
          simp only [Value.agg.injEq, Array.mk.injEq, List.cons.injEq, and_true] at hv
          obtain ⟨rfl, rfl, rfl, rfl, rfl, rfl⟩ := hv
          have P : ∀ o, Calls Tryz.prog 13 #[.agg #[.int .i64 y.kind, .int .i64 y.op, .string y.name, .int .u64 y.value, .slice kay y.kids.length kcy, .int .i64 y.at_]] (wr.alloc o) _ := fun o =>
            rexpr_all (m + 1) hm _ y (wr.alloc o) (hR.out.mono (by rw [alloc_size]; omega) ((Below.refl _ _).alloc (by omega) o)) HEy.out
          have hs := total_snoc (lexpr (m + 1)) x.exprs j y hy
          have hle := total_take (lexpr (m + 1)) x.exprs (j + 1)
          rw [hs, HEt.out] at hle
          have HS2 := Lib.hid hs
          clear hKy hy hs
          generalize total (lexpr (m + 1)) (x.exprs.take j) = t at HS2 hle ⊢
          generalize lexpr (m + 1) y = z at HS2 hle P ⊢
          have hle2 : t + z <= 134217728 := by omega
          clear hle
          go_wp2_with (go_at_call 13; refine (P _).mono ?_; rintro e w3 ⟨rfl, hb3⟩)
          go_roundw
          case rel =>
            refine ⟨j + 1, by omega, by go_num, ?_, ?_⟩
            · rw [HS2.out]; go_num
            · exact (hb2.alloc (by rw [alloc_size]; omega) _).trans (hb3.mono (by rw [alloc_size, alloc_size]; omega))
          case measure => simp [intOf]; omega
        · obtain rfl : j = x.exprs.length := by omega
          rw [List.take_length, HEt.out]
          go_wp2
          obtain ⟨b1, hb1e⟩ : ∃ b, lblock m n x.body = b := ⟨_, rfl⟩
          obtain ⟨b2, hb2e⟩ : ∃ b, lblock m n x.els = b := ⟨_, rfl⟩
          have hBt : b1 + b2 = Bt := by rw [<- hb1e, <- hb2e]; exact HBt.out
          have h1le : b1 <= 1099511627776 := by rw [<- hb1e]; exact sat_le _ _
          have h2le : b2 <= 1099511627776 := by rw [<- hb2e]; exact sat_le _ _
          have hh : wr.heap[wq.heap.size]? = some (.cells #[.int .i64 K, .string x.name, .slice ea x.exprs.length ec, .int .i64 (c : Int), .slice ba x.body.length bc, .slice la x.els.length lc, .int .i64 x.at_] 34 (0, 0)) := (hb2.block _ (by rw [alloc_size]; omega)).trans (heap_alloc_new _ _)
          obtain ⟨Q0, Q1, Q2, Q3, Q4, Q5, Q6⟩ := regrown7 hh
          have hre : ∀ d os, Below wq.heap.size wq (Sort.grow (redrawn wr d) os) := fun d os => hbw2.trans ((below_regrown wr d os).mono hbw2.size)
          have cB := fun d os => Calls.regrown_of (RB _ _ _ (stms_later HB.out (hre d os)) GB.out)
          have cL := fun d os => Calls.regrown_of (RB _ _ _ (stms_later HL.out (hre d os)) GL.out)
          rw [hb1e] at cB
          rw [hb2e] at cL
          clear RB hb1e hb2e hh h0 h1 h2 h3 h4 h5 h6
          have HBb := Lib.hid hBt
          clear hBt
          refine wp_region_quiet_below (by kernel_rfl) (by kernel_rfl) ?_
          repeat (go_big_quiet_step (first | with_reducible exact cB _ _ | with_reducible exact cL _ _))
          refine wpQuiet_nil ?_
          intro _ hw'
          obtain ⟨⟨dq, osq⟩, hw''⟩ := hw'
          subst hw''
          replace Q0 := Q0 dq osq
          replace Q3 := Q3 dq osq
          have hbe := hbr.trans ((hre dq osq).mono hzr)
          obtain ⟨W, hW⟩ : ∃ W, W = Sort.grow (redrawn wr dq) osq := ⟨_, rfl⟩
          rw [<- hW] at Q0 Q3 hbe ⊢
          clear hW Q1 Q2 Q4 Q5 Q6 cB cL hre
          by_cases hK : K = 4
          · subst hK
            have LL' := Lib.hid (LL.out HKd.out)
            have hpr := prod_le c (b1 + b2) hc2 (by omega)
            have hp1 : (c : Int) * ((b1 : Int) + b2 + 4) = ((c * (b1 + b2 + 4) : Nat) : Int) := by push_cast; rfl
            have hp2 : 0 <= (c : Int) * ((b1 : Int) + b2 + 4) /\ (c : Int) * ((b1 : Int) + b2 + 4) <= 562949953422336 := by rw [hp1]; omega
            have HP := Lib.hid hp1
            obtain ⟨hp3, hp4⟩ := hp2
            clear hp1 hpr
            go_wp2
            go_roundw
            case rel =>
              refine ⟨k + 1, by omega, by go_num, ?_, hbe⟩
              rw [HS.out, LL'.out, HP.out, HBb.out]
              generalize c * (Bt + 4) = z
              congr 1
              omega
            case measure => simp [intOf]; omega
          · have LE' := Lib.hid (LE.out (by rw [HKd.out]; exact hK))
            go_wp2
            go_roundw
            case rel =>
              refine ⟨k + 1, by omega, by go_num, ?_, hbe⟩
              rw [HS.out, LE'.out, <- HBb.out]
              congr 1
              omega
            case measure => simp [intOf]; omega
    · obtain rfl : k = ss.length := by omega
      go_wp2
      go_ret
      exact ⟨by rw [List.take_length]; rfl, hbr⟩
theorem rblock_all {m : Nat} (hm : m <= 13) : ∀ n, RBlk m n
  | 0 => rblock_of hm fun n' h => by omega
  | n + 1 => rblock_of hm fun n' h => by obtain rfl : n' = n := by omega
                                         exact rblock_all hm n'
end Go.Proofs.YtclmeachbojopaaGreatDoor.Co
