/- The statements' own awake: true. -/
import Derived.Test.YtmmnkjcnmblnkaaScale
import Derived.ChangeSame
namespace Go.Proofs.Ytmmnkjcnmblnkaa
open Go.ChangeShapes Go.WideShapes Go.ChangeAt Go.RowKit
set_option linter.unusedVariables false

theorem div_c (w : World) : Calls Try.prog 13 #[.int .i64 (-7), .int .i64 2] w fun e w' => e = .returned (.tuple #[.int .i64 (-4), .int .i64 1, .bool true]) ∧ Below w.heap.size w w' := by
  have h := div_mem (-7) 2 w (by decide) (by decide)
  rw [show dvQ (-7) 2 = -4 by decide +kernel, show dvR (-7) 2 = 1 by decide +kernel, show dvO 2 = true by decide +kernel] at h
  exact h
theorem scale_c (w : World) : Calls Try.prog 15 #[.int .i64 4611686018427387904, .int .i64 4, .int .i64 8] w fun e w' => e = .returned (.tuple #[.int .i64 2305843009213693952, .int .i64 0, .bool true]) ∧ Below w.heap.size w w' := by
  have h := scale_any 4611686018427387904 4 8 w (by decide) (by decide) (by decide)
  rw [show scO (4611686018427387904 * 4) 8 = true by decide +kernel, show scQ (4611686018427387904 * 4) 8 = 2305843009213693952 by decide +kernel, show scR (4611686018427387904 * 4) 8 = 0 by decide +kernel] at h
  exact h
theorem flag_c (w : World) : Calls Try.prog 12 #[.bool true] w fun e w' => e = .returned (.int .i64 (-1)) ∧ w = w' := flag_any true w
theorem below_c (w : World) : Calls Try.prog 10 #[.int .i64 1, .int .i64 (-1)] w fun e w' => e = .returned (.bool true) ∧ w = w' := by
  have h := below_any 1 (-1) w
  rw [show belB 1 (-1) = true by decide +kernel] at h
  exact h
theorem within_c (w : World) : Calls Try.prog 11 #[.int .i64 3, .int .i64 3, .int .i64 5] w fun e w' => e = .returned (.bool true) ∧ w = w' := by
  have h := within_any 3 3 5 w
  rw [show belB (wrap64 (3 - 3)) (wrap64 (5 - 3)) = true by decide +kernel] at h
  exact h
theorem left_c (w : World) : Calls Try.prog 17 #[.int .i64 3, .int .i64 2] w fun e w' => e = .returned (.int .i64 12) ∧ w = w' := by
  have h := left_any 3 2 w
  rw [show lshI 3 2 = 12 by decide +kernel] at h
  exact h
theorem right_c (w : World) : Calls Try.prog 18 #[.int .i64 (-1), .int .i64 63] w fun e w' => e = .returned (.int .i64 1) ∧ w = w' := by
  have h := right_any (-1) 63 w
  rw [show rshI (-1) 63 = 1 by decide +kernel] at h
  exact h

set_option maxHeartbeats 1000000 in
theorem awake_any (w : World) :
    Calls Try.prog 8 #[] w fun e w' => e = .returned (.bool true) ∧ Below w.heap.size w w' := by
  go_enter Try.func8, Try.ntmps8
  go_wp2_with (first | (go_at_call 13; refine (div_c _).mono ?_; rintro e w1 ⟨rfl, hb1⟩) | (go_at_call 15; refine (scale_c _).mono ?_; rintro e w2 ⟨rfl, hb2⟩) | (go_at_call 12; refine (flag_c _).mono ?_; rintro e w' ⟨rfl, rfl⟩) | (go_at_call 10; refine (below_c _).mono ?_; rintro e w' ⟨rfl, rfl⟩) | (go_at_call 11; refine (within_c _).mono ?_; rintro e w' ⟨rfl, rfl⟩) | (go_at_call 17; refine (left_c _).mono ?_; rintro e w' ⟨rfl, rfl⟩) | (go_at_call 18; refine (right_c _).mono ?_; rintro e w' ⟨rfl, rfl⟩))
  go_ret
  exact ⟨rfl, hb1.trans (hb2.mono hb1.size)⟩
end Go.Proofs.Ytmmnkjcnmblnkaa
