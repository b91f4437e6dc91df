/- The statements' own awake: true. -/
import Derived.Test.YtobijdfnafnodaaGreatDoorScale
import Derived.ChangeSame
namespace Go.Proofs.YtobijdfnafnodaaGreatDoor.Ce
set_option maxRecDepth 100000
open Go.ChangeShapes Go.WideShapes Go.ChangeAt Go.RowKit
set_option linter.unusedVariables false

theorem div_c (w : World) : Calls Tryz.prog 121 #[.int .i64 (-7), .int .i64 2] w fun e w' => e = .returned (.tuple #[.int .i64 (-4), .int .i64 1, .bool true]) ∧ Below w.heap.size w w' := by
  have h := div_mem (-7) 2 w (by decide) (by decide)
  rw [show dvQ (-7) 2 = -4 by decide +kernel, show dvR (-7) 2 = 1 by decide +kernel, show dvO 2 = true by decide +kernel] at h
  exact h
theorem scale_c (w : World) : Calls Tryz.prog 123 #[.int .i64 4611686018427387904, .int .i64 4, .int .i64 8] w fun e w' => e = .returned (.tuple #[.int .i64 2305843009213693952, .int .i64 0, .bool true]) ∧ Below w.heap.size w w' := by
  have h := scale_any 4611686018427387904 4 8 w (by decide) (by decide) (by decide)
  rw [show scO (4611686018427387904 * 4) 8 = true by decide +kernel, show scQ (4611686018427387904 * 4) 8 = 2305843009213693952 by decide +kernel, show scR (4611686018427387904 * 4) 8 = 0 by decide +kernel] at h
  exact h
theorem flag_c (w : World) : Calls Tryz.prog 17 #[.bool true] w fun e w' => e = .returned (.int .i64 (-1)) ∧ w = w' := flag_any true w
theorem below_c (w : World) : Calls Tryz.prog 82 #[.int .i64 1, .int .i64 (-1)] w fun e w' => e = .returned (.bool true) ∧ w = w' := by
  have h := below_any 1 (-1) w
  rw [show belB 1 (-1) = true by decide +kernel] at h
  exact h
theorem within_c (w : World) : Calls Tryz.prog 90 #[.int .i64 3, .int .i64 3, .int .i64 5] w fun e w' => e = .returned (.bool true) ∧ w = w' := by
  have h := within_any 3 3 5 w
  rw [show belB (wrap64 (3 - 3)) (wrap64 (5 - 3)) = true by decide +kernel] at h
  exact h
theorem left_c (w : World) : Calls Tryz.prog 73 #[.int .i64 3, .int .i64 2] w fun e w' => e = .returned (.int .i64 12) ∧ w = w' := by
  have h := left_any 3 2 w
  rw [show lshI 3 2 = 12 by decide +kernel] at h
  exact h
theorem right_c (w : World) : Calls Tryz.prog 74 #[.int .i64 (-1), .int .i64 63] w fun e w' => e = .returned (.int .i64 1) ∧ w = w' := by
  have h := right_any (-1) 63 w
  rw [show rshI (-1) 63 = 1 by decide +kernel] at h
  exact h

end Go.Proofs.YtobijdfnafnodaaGreatDoor.Ce
