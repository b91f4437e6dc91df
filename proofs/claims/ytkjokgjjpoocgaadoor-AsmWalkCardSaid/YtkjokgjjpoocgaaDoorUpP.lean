/- The program's Up. -/
import Derived.Test.YtkjokgjjpoocgaaDoorUpS
namespace Go.Proofs.YtkjokgjjpoocgaaDoor
set_option maxRecDepth 100000
open Go.ChangeShapes Go.WideShapes Go.ChangeAt Go.RowKit
open On (C64 C8)
set_option linter.unusedVariables false
set_option maxRecDepth 100000

theorem nat_clear (X : Nat) (hX : X < 2 ^ 64) : X &&& 18446744073709551608 = X / 8 * 8 := by
  have e : (18446744073709551608 : Nat) = (2 ^ 61 - 1) * 2 ^ 3 := by decide
  rw [e, show (8 : Nat) = 2 ^ 3 from rfl]
  apply Nat.eq_of_testBit_eq
  intro i
  rw [Nat.testBit_and, Nat.testBit_mul_two_pow, Nat.testBit_mul_two_pow, Nat.testBit_two_pow_sub_one, Nat.testBit_div_two_pow]
  by_cases h : 3 ≤ i
  · rw [show i - 3 + 3 = i by omega]
    by_cases h2 : i - 3 < 61
    · simp [h, h2]
    · have : X.testBit i = false := Nat.testBit_lt_two_pow (Nat.lt_of_lt_of_le hX (Nat.pow_le_pow_right (by decide) (by omega)))
      simp [this]
  · simp [h]
theorem bits_clear (Y : Int) (hY : C64 Y) : bits .andNot .i64 Y 7 = Y - Y % 8 := by
  have e : (BitVec.ofInt 64 Y &&& ~~~ BitVec.ofInt 64 7).toNat = (Y % 18446744073709551616).toNat / 8 * 8 := by
    rw [BitVec.toNat_and, BitVec.toNat_ofInt]
    have : (~~~ BitVec.ofInt 64 7).toNat = 18446744073709551608 := by decide
    rw [this]
    exact nat_clear _ (by omega)
  show IntKind.wrap .i64 ((BitVec.ofInt 64 Y &&& ~~~ BitVec.ofInt 64 7).toNat : Nat) = _
  rw [e, Me.wrapi]
  unfold C64 at hY
  unfold wrap64
  omega
theorem up_bits {x : Int} (hx : C64 x) : bits .andNot .i64 (wrap64 (wrap64 (x + 8) - 1)) 7 = up x := by
  have hY : C64 (wrap64 (wrap64 (x + 8) - 1)) := by unfold C64 wrap64; omega
  rw [bits_clear _ hY]
  unfold up
  unfold C64 at hx
  unfold wrap64
  omega
theorem up_any (x : Int) (w : World) (hx : C64 x) :
    Calls Tryd.prog 19 #[.int .i64 x] w fun e w' => e = .returned (.int .i64 (up x)) ∧ w = w' := by
  have e1 := up_bits hx
  go_enter Tryd.func19, Tryd.ntmps19
  go_wp2
  go_ret
  exact ⟨rfl, rfl⟩
end Go.Proofs.YtkjokgjjpoocgaaDoor
