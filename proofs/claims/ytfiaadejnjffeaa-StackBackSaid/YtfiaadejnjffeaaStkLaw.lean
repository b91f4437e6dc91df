/- Contracts for the laws of layer 4: what was pushed is popped; rolled as often as n and 1; two pops as one. -/
import Derived.Test.YtfiaadejnjffeaaStkAwake
namespace Go.Proofs.Ytfiaadejnjffeaa
open Go.ChangeShapes Go.WideShapes Go.ChangeAt Go.RowKit
set_option linter.unusedVariables false

theorem bk_push (a b : Option Addr) (n c m d N : Nat) (xs ys : List Int) (w : World) (h : Sl w a n c (ints xs)) (g : Sl w b m d (ints ys)) (hn : n + m ≤ 17592186044416) (hN : N = n + m) :
    Calls Try.prog 9 #[.slice a n c, .int .i64 ((n : Int) + (m : Int)), .slice b m d] w fun e w' => ∃ a c, e = .returned (.tuple #[.slice a N c, .int .i64 0]) ∧ Sl w' a N c (ints (xs ++ ys)) ∧ Below w.heap.size w w' := by
  refine (push_any a b n c m d xs ys _ w h g hn (by omega)).mono fun e w' hh => ?_
  have e1 : tPush n m ((n : Int) + (m : Int)) = 0 := by unfold tPush; rw [if_neg (by omega)]
  have e2 : pushX xs ys ((n : Int) + (m : Int)) = xs ++ ys := by unfold pushX; rw [h.nums, g.nums, if_pos e1]
  rw [e1, e2] at hh
  exact told_at hh (by rw [List.length_append, h.nums, g.nums, hN])
theorem bk_over (a b : Option Addr) (n c m d : Nat) (xs ys : List Int) (w : World) (h : Sl w a n c (ints xs)) (g : Sl w b m d (ints ys)) (hn : n + m ≤ 17592186044416) :
    Calls Try.prog 9 #[.slice a n c, .int .i64 ((n : Int) + (m : Int) - 1), .slice b m d] w fun e w' => ∃ a c, e = .returned (.tuple #[.slice a 0 c, .int .i64 (-3)]) ∧ Below w.heap.size w w' := by
  refine (push_any a b n c m d xs ys _ w h g hn (by omega)).mono fun e w' hh => ?_
  have e1 : tPush n m ((n : Int) + (m : Int) - 1) = -3 := by unfold tPush; rw [if_pos (by omega)]
  have e2 : pushX xs ys ((n : Int) + (m : Int) - 1) = [] := by unfold pushX; rw [h.nums, g.nums, if_neg (by rw [e1]; decide)]
  rw [e1, e2] at hh
  obtain ⟨a, c, he, _, hb⟩ := told_at hh rfl
  exact ⟨a, c, he, hb⟩
theorem bk_pop (a : Option Addr) (N c n m : Nat) (xs ys : List Int) (w : World) (h : Sl w a N c (ints (xs ++ ys))) (hx : xs.length = n) (hy : ys.length = m) (hn : N ≤ 17592186044416) :
    Calls Try.prog 11 #[.slice a N c, .int .i64 (m : Int)] w fun e w' => ∃ a c b d, e = .returned (.tuple #[.slice a n c, .slice b m d, .int .i64 0]) ∧ Sl w' a n c (ints xs) ∧ Sl w' b m d (ints ys) ∧ Below w.heap.size w w' := by
  have hN : N = n + m := by have := h.nums; rw [List.length_append] at this; omega
  refine (pop_any a N c (xs ++ ys) _ w h hn (by omega)).mono fun e w' hh => ?_
  have e1 : tPop N (m : Int) = 0 := by unfold tPop; rw [if_neg (by omega)]
  have e2 : leftX (xs ++ ys) (m : Int) = xs := by
    unfold leftX
    rw [h.nums, if_pos e1, Int.toNat_natCast, show N - m = xs.length by omega, List.take_left]
  have e3 : takenX (xs ++ ys) (m : Int) = ys := by
    unfold takenX
    rw [h.nums, if_pos e1, Int.toNat_natCast, show N - m = xs.length by omega, List.drop_left]
  rw [e1, e2, e3] at hh
  exact told2_at hh hx hy
end Go.Proofs.Ytfiaadejnjffeaa
