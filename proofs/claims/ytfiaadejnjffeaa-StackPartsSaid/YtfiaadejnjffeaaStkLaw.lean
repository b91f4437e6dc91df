/- Contracts for the laws of layer 4: what was pushed is popped; rolled as often as n and 1; two pops as one. -/
import Derived.Test.YtfiaadejnjffeaaStkAwake
namespace Go.Proofs.Ytfiaadejnjffeaa
open Go.ChangeShapes Go.WideShapes Go.ChangeAt Go.RowKit
set_option linter.unusedVariables false

theorem bk_push (a b : Option Addr) (n c m d N : Nat) (xs ys : List Int) (w : World) (h : Sl w a n c (ints xs)) (g : Sl w b m d (ints ys)) (hn : n + m ≤ 17592186044416) (hN : N = n + m) :
    Calls Try.prog 9 #[.slice a n c, .int .i64 ((n : Int) + (m : Int)), .slice b m d] w fun e w' => ∃ a c, e = .returned (.tuple #[.slice a N c, .int .i64 0]) ∧ Sl w' a N c (ints (xs ++ ys)) ∧ Below w.heap.size w w' := by
  refine (push_any a b n c m d xs ys _ w h g hn (by omega)).mono fun e w' hh => ?_
  have e1 : tPush n m ((n : Int) + (m : Int)) = 0 := by unfold tPush; rw [if_neg (by omega)]
  have e2 : pushX xs ys ((n : Int) + (m : Int)) = xs ++ ys := by unfold pushX; rw [h.nums, g.nums, if_pos e1]
  rw [e1, e2] at hh
  exact told_at hh (by rw [List.length_append, h.nums, g.nums, hN])
theorem bk_over (a b : Option Addr) (n c m d : Nat) (xs ys : List Int) (w : World) (h : Sl w a n c (ints xs)) (g : Sl w b m d (ints ys)) (hn : n + m ≤ 17592186044416) :
    Calls Try.prog 9 #[.slice a n c, .int .i64 ((n : Int) + (m : Int) - 1), .slice b m d] w fun e w' => ∃ a c, e = .returned (.tuple #[.slice a 0 c, .int .i64 (-3)]) ∧ Below w.heap.size w w' := by
  refine (push_any a b n c m d xs ys _ w h g hn (by omega)).mono fun e w' hh => ?_
  have e1 : tPush n m ((n : Int) + (m : Int) - 1) = -3 := by unfold tPush; rw [if_pos (by omega)]
  have e2 : pushX xs ys ((n : Int) + (m : Int) - 1) = [] := by unfold pushX; rw [h.nums, g.nums, if_neg (by rw [e1]; decide)]
  rw [e1, e2] at hh
  obtain ⟨a, c, he, _, hb⟩ := told_at hh rfl
  exact ⟨a, c, he, hb⟩
theorem bk_pop (a : Option Addr) (N c n m : Nat) (xs ys : List Int) (w : World) (h : Sl w a N c (ints (xs ++ ys))) (hx : xs.length = n) (hy : ys.length = m) (hn : N ≤ 17592186044416) :
    Calls Try.prog 11 #[.slice a N c, .int .i64 (m : Int)] w fun e w' => ∃ a c b d, e = .returned (.tuple #[.slice a n c, .slice b m d, .int .i64 0]) ∧ Sl w' a n c (ints xs) ∧ Sl w' b m d (ints ys) ∧ Below w.heap.size w w' := by
  have hN : N = n + m := by have := h.nums; rw [List.length_append] at this; omega
  refine (pop_any a N c (xs ++ ys) _ w h hn (by omega)).mono fun e w' hh => ?_
  have e1 : tPop N (m : Int) = 0 := by unfold tPop; rw [if_neg (by omega)]
  have e2 : leftX (xs ++ ys) (m : Int) = xs := by
    unfold leftX
    rw [h.nums, if_pos e1, Int.toNat_natCast, show N - m = xs.length by omega, List.take_left]
  have e3 : takenX (xs ++ ys) (m : Int) = ys := by
    unfold takenX
    rw [h.nums, if_pos e1, Int.toNat_natCast, show N - m = xs.length by omega, List.drop_left]
  rw [e1, e2, e3] at hh
  exact told2_at hh hx hy

/-! ### rolled as often as n and 1 -/
theorem roll_at (pre zs : List Int) (y : Int) (k : Nat) (hz : zs.length = k) : rollX (pre ++ y :: zs) (k : Int) = pre ++ (zs ++ [y]) ∧ pickV (pre ++ y :: zs) (k : Int) = y ∧ tPick (pre ++ y :: zs).length (k : Int) = 0 := by
  have hl : (pre ++ y :: zs).length = pre.length + 1 + k := by simp [hz]; omega
  have h0 : tPick (pre ++ y :: zs).length (k : Int) = 0 := by unfold tPick; rw [hl, if_neg (by omega)]
  have e : (pre ++ y :: zs).length - 1 - k = pre.length := by omega
  have g : (pre ++ y :: zs).getD pre.length 0 = y := by simp [List.getD]
  refine ⟨?_, ?_, h0⟩
  · unfold rollX
    rw [if_pos h0, Int.toNat_natCast, e, g, List.take_left, show pre.length + 1 = (pre ++ [y]).length by simp, show pre ++ y :: zs = (pre ++ [y]) ++ zs by simp, List.drop_left, List.append_assoc]
  · unfold pickV
    rw [if_pos h0, Int.toNat_natCast, e, g]

/-- the stack behind q rolls of the value with k above it -/
def stR (xs : List Int) (k q : Nat) : List Int := xs.take (xs.length - 1 - k) ++ ((xs.drop (xs.length - 1 - k)).drop q ++ (xs.drop (xs.length - 1 - k)).take q)
/-- the value that the q-th roll lays on top -/
def stP (xs : List Int) (k q : Nat) : Int := (xs.drop (xs.length - 1 - k)).getD q 0
theorem stR_0 (xs : List Int) (k : Nat) : stR xs k 0 = xs := by simp [stR]
theorem stR_all {xs : List Int} {k : Nat} (h : k < xs.length) : stR xs k (k + 1) = xs := by
  unfold stR
  rw [List.drop_eq_nil_of_le (by simp; omega), List.take_of_length_le (l := xs.drop _) (by simp; omega), List.nil_append, List.take_append_drop]
theorem stR_len {xs : List Int} {k q : Nat} (h : k < xs.length) (hq : q ≤ k + 1) : (stR xs k q).length = xs.length := by
  simp [stR]
  omega
theorem stR_next {xs : List Int} {k q : Nat} (h : k < xs.length) (hq : q < k + 1) : rollX (stR xs k q) (k : Int) = stR xs k (q + 1) ∧ pickV (stR xs k q) (k : Int) = stP xs k q ∧ tPick (stR xs k q).length (k : Int) = 0 := by
  have hl : (xs.drop (xs.length - 1 - k)).length = k + 1 := by simp; omega
  have e : stR xs k q = xs.take (xs.length - 1 - k) ++ stP xs k q :: ((xs.drop (xs.length - 1 - k)).drop (q + 1) ++ (xs.drop (xs.length - 1 - k)).take q) := by
    unfold stR stP
    generalize xs.drop (xs.length - 1 - k) = top at *
    have eg : top.getD q 0 = top[q]'(by omega) := by simp [List.getD, show q < top.length by omega]
    rw [eg, List.drop_eq_getElem_cons (i := q) (l := top) (by omega), List.cons_append]
  obtain ⟨h1, h2, h3⟩ := roll_at (xs.take (xs.length - 1 - k)) ((xs.drop (xs.length - 1 - k)).drop (q + 1) ++ (xs.drop (xs.length - 1 - k)).take q) (stP xs k q) k (by
    generalize xs.drop (xs.length - 1 - k) = top at *
    simp [hl]; omega)
  rw [← e] at h1 h2 h3
  refine ⟨?_, h2, h3⟩
  rw [h1]
  unfold stR stP
  generalize xs.drop (xs.length - 1 - k) = top at *
  rw [List.append_assoc, List.take_add_one (l := top)]
  simp [List.getD, show q < top.length by omega]
theorem getD_app (a b : List Int) (j : Nat) : (a ++ b).getD (a.length + j) 0 = b.getD j 0 := by
  simp only [List.getD]
  rw [List.getElem?_append_right (Nat.le_add_right ..), Nat.add_sub_cancel_left]
theorem stR_last {xs : List Int} {k q : Nat} (h : k < xs.length) (hq : q < k + 1) : (stR xs k (q + 1)).getD (xs.length - 1) 0 = stP xs k q := by
  have hl : (xs.drop (xs.length - 1 - k)).length = k + 1 := by simp; omega
  have e : xs.length - 1 = (xs.take (xs.length - 1 - k)).length + k := by simp; omega
  unfold stR stP
  generalize xs.take (xs.length - 1 - k) = pre at *
  generalize xs.drop (xs.length - 1 - k) = top at *
  rw [e, getD_app]
  have e2 : k = (top.drop (q + 1)).length + q := by simp [hl]; omega
  rw [e2, getD_app]
  simp [List.getD]
theorem rl_pick (a : Option Addr) (n c : Nat) (xs : List Int) (k q : Nat) (w : World) (h : Sl w a n c (ints (stR xs k q))) (hk : k < xs.length) (hq : q < k + 1) (hn : n ≤ 17592186044416) (hx : xs.length = n) :
    Calls Try.prog 14 #[.slice a n c, .int .i64 (k : Int)] w fun e w' => e = .returned (.tuple #[.int .i64 (stP xs k q), .int .i64 0]) ∧ Below w.heap.size w w' := by
  obtain ⟨h1, h2, h3⟩ := stR_next hk hq
  refine (pick_any a n c (stR xs k q) _ w h (by omega)).mono fun e w' hh => ?_
  rw [h.nums] at h3
  rw [h2, h3] at hh
  exact hh
theorem rl_roll (a : Option Addr) (n c : Nat) (xs : List Int) (k q : Nat) (w : World) (h : Sl w a n c (ints (stR xs k q))) (hk : k < xs.length) (hq : q < k + 1) (hn : n ≤ 17592186044416) (hx : xs.length = n) :
    Calls Try.prog 16 #[.slice a n c, .int .i64 (k : Int)] w fun e w' => ∃ a c, e = .returned (.tuple #[.slice a n c, .int .i64 0]) ∧ Sl w' a n c (ints (stR xs k (q + 1))) ∧ Below w.heap.size w w' := by
  obtain ⟨h1, h2, h3⟩ := stR_next hk hq
  refine (roll_any a n c (stR xs k q) _ w h hn (by omega)).mono fun e w' hh => ?_
  rw [h.nums] at h3
  rw [h1, h3] at hh
  exact told_at hh (by rw [stR_len hk (by omega), hx])
end Go.Proofs.Ytfiaadejnjffeaa
