/- The statements' own helpers: awake, two, one1. -/
import Derived.Test.YtbgaoipgfmaijaaFloTake
import Derived.ChangeSame
namespace Go.Proofs.Ytbgaoipgfmaijaa
open Go.ChangeShapes Go.WideShapes Go.ChangeAt Go.RowKit
set_option linter.unusedVariables false

theorem two_c1 (w : World) : Calls Try.prog 9 #[.int .u8 47, .int .i64 4607182418800017408, .int .i64 (-9223372036854775808)] w (IB (-4503599627370496) true w) := by
  have h := two_any 47 4607182418800017408 (-9223372036854775808) w
  rw [show twI 47 4607182418800017408 (-9223372036854775808) = -4503599627370496 by decide +kernel, show twB 47 = true by decide] at h
  exact h
theorem two_c2 (w : World) : Calls Try.prog 9 #[.int .u8 109, .int .i64 0, .int .i64 (-9223372036854775808)] w (IB (-9223372036854775808) true w) := by
  have h := two_any 109 0 (-9223372036854775808) w
  rw [show twI 109 0 (-9223372036854775808) = -9223372036854775808 by decide +kernel, show twB 109 = true by decide] at h
  exact h
theorem one_c (w : World) : Calls Try.prog 11 #[.int .u8 110, .int .i64 4607182418800017408] w (IB (-4616189618054758400) true w) := by
  have h := one_any 110 4607182418800017408 w
  rw [show onI 110 4607182418800017408 = -4616189618054758400 by decide +kernel, show onB 110 = true by decide] at h
  exact h
theorem less_c (w : World) : Calls Try.prog 15 #[.int .i64 (-4616189618054758400), .int .i64 4607182418800017408] w fun e w' => e = .returned (.bool true) ∧ w = w' := by
  have h := less_any (-4616189618054758400) 4607182418800017408 w
  rw [show ltB (cb (-4616189618054758400)) (cb 4607182418800017408) = true by decide +kernel] at h
  exact h
theorem same_c (w : World) : Calls Try.prog 17 #[.int .i64 0, .int .i64 (-9223372036854775808)] w fun e w' => e = .returned (.bool true) ∧ w = w' := by
  have h := same_any 0 (-9223372036854775808) w
  rw [show eqB (cb 0) (cb (-9223372036854775808)) = true by decide +kernel] at h
  exact h
theorem put_c (w : World) : Calls Try.prog 22 #[.int .i64 1] w fun e w' => e = .returned (.int .i64 4607182418800017408) ∧ w = w' := by
  have h := put_any 1 w
  rw [show puI 1 = 4607182418800017408 by decide +kernel] at h
  exact h
set_option maxHeartbeats 1000000 in
theorem awake_any (w : World) :
    Calls Try.prog 8 #[] w fun e w' => e = .returned (.bool true) ∧ Below w.heap.size w w' := by
  go_enter Try.func8, Try.ntmps8
  go_wp2_with (first | (go_at_call 9; (with_reducible refine (two_c1 _).mono ?_); rintro e w1 ⟨rfl, hb1⟩) | (go_at_call 9; (with_reducible refine (two_c2 _).mono ?_); rintro e w2 ⟨rfl, hb2⟩) | (go_at_call 11; (with_reducible refine (one_c _).mono ?_); rintro e w3 ⟨rfl, hb3⟩) | (go_at_call 15; (with_reducible refine (less_c _).mono ?_); rintro e w' ⟨rfl, rfl⟩) | (go_at_call 17; (with_reducible refine (same_c _).mono ?_); rintro e w' ⟨rfl, rfl⟩) | (go_at_call 22; (with_reducible refine (put_c _).mono ?_); rintro e w' ⟨rfl, rfl⟩))
  go_ret
  have h2 := hb1.trans (hb2.mono hb1.size)
  exact ⟨rfl, h2.trans (hb3.mono h2.size)⟩
theorem ltwo_any (op a b : Int) (w : World) :
    Calls Try.prog 16 #[.int .u8 op, .int .i64 a, .int .i64 b] w fun e w' => e = .returned (.int .i64 (twI op a b)) ∧ Below w.heap.size w w' := by
  go_enter Try.func16, Try.ntmps16
  go_wp2_with (go_at_call 9; refine (two_any _ _ _ _).mono ?_; rintro e w1 ⟨rfl, hb1⟩)
  go_ret
  exact ⟨rfl, hb1⟩
theorem lone_any (op a : Int) (w : World) :
    Calls Try.prog 13 #[.int .u8 op, .int .i64 a] w fun e w' => e = .returned (.int .i64 (onI op a)) ∧ Below w.heap.size w w' := by
  go_enter Try.func13, Try.ntmps13
  go_wp2_with (go_at_call 11; refine (one_any _ _ _).mono ?_; rintro e w1 ⟨rfl, hb1⟩)
  go_ret
  exact ⟨rfl, hb1⟩
end Go.Proofs.Ytbgaoipgfmaijaa
