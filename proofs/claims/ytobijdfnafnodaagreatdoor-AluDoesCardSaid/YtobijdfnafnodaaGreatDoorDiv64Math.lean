/- Plain arithmetic of math/bits.Div64: one step of the division by two halves, and how both steps make the whole. No program is named here. -/
import Derived.IntWalk
import Derived.RowKit
import Derived.Laws.BitsAllLaws
import Derived.Lib.BitFns
namespace Go.Proofs.YtobijdfnafnodaaGreatDoor.D64
set_option maxRecDepth 100000
open Go.RowKit

/-- what holds of a quotient and what is left that are guessed by the upper half of the divisor -/
structure Guess (U m Y y1 y0 Q q r : Int) : Prop where
  U0 : 0 ≤ U
  UY : U < Y
  m0 : 0 ≤ m
  m1 : m ≤ 4294967295
  Ye : Y = y1 * 4294967296 + y0
  y10 : 2147483648 ≤ y1
  y11 : y1 ≤ 4294967295
  y00 : 0 ≤ y0
  y01 : y0 ≤ 4294967295
  Qe : Q = (U * 4294967296 + m) / Y
  q0 : 0 ≤ q
  q1 : q ≤ 8589934592
  eq : q * y1 + r = U
  r0 : 0 ≤ r
  r1 : r ≤ 4294967295
  Qq : Q ≤ q

theorem ediv_le_of {a b c : Int} (hb : 0 < b) (h : a < (c + 1) * b) : a / b ≤ c := by
  have := Int.ediv_lt_of_lt_mul hb h
  omega
theorem le_ediv_of {a b c : Int} (hb : 0 < b) (h : c * b ≤ a) : c ≤ a / b := (Int.le_ediv_iff_mul_le hb).2 h

theorem guess0 {U m Y y1 y0 Q q r : Int} (U0 : 0 ≤ U) (UY : U < Y) (Y2 : Y ≤ 18446744073709551615) (m0 : 0 ≤ m) (m1 : m ≤ 4294967295) (Ye : Y = y1 * 4294967296 + y0)
    (y10 : 2147483648 ≤ y1) (y11 : y1 ≤ 4294967295) (y00 : 0 ≤ y0) (y01 : y0 ≤ 4294967295) (Qe : Q = (U * 4294967296 + m) / Y) (hq : q = U / y1) (hr : r = U - q * y1) : Guess U m Y y1 y0 Q q r := by
  have hd := Int.mul_ediv_add_emod U y1
  have h1 := Int.emod_nonneg U (show y1 ≠ 0 by omega)
  have h2 := Int.emod_lt_of_pos U (show 0 < y1 by omega)
  have e : q * y1 = y1 * (U / y1) := by rw [hq, Int.mul_comm]
  have hr0 : r = U % y1 := by omega
  have q0 : 0 ≤ q := by rw [hq]; exact Int.ediv_nonneg U0 (by omega)
  have q1 : q ≤ 8589934592 := by
    rw [hq]; refine ediv_le_of (by omega) ?_
    have := Int.mul_le_mul_of_nonneg_left y10 (show (0 : Int) ≤ 8589934592 + 1 by omega)
    omega
  refine ⟨U0, UY, m0, m1, Ye, y10, y11, y00, y01, Qe, q0, q1, by omega, by omega, by omega, ?_⟩
  rw [Qe]
  refine ediv_le_of (by omega) ?_
  have a1 : (q + 1) * Y = (q * y1 + y1) * 4294967296 + (q + 1) * y0 := by
    rw [Ye, Int.mul_add, ← Int.mul_assoc, Int.add_mul q 1 y1, Int.one_mul]
  have a2 : 0 ≤ (q + 1) * y0 := Int.mul_nonneg (by omega) y00
  omega

theorem Guess.prod {U m Y y1 y0 Q q r : Int} (g : Guess U m Y y1 y0 Q q r) : q * Y = (U - r) * 4294967296 + q * y0 := by
  rw [g.Ye, Int.mul_add, ← Int.mul_assoc]
  have := g.eq
  rw [show q * y1 = U - r by omega]
theorem Guess.Y0 {U m Y y1 y0 Q q r : Int} (g : Guess U m Y y1 y0 Q q r) : 9223372036854775808 ≤ Y := by
  have := g.Ye; have := g.y10; have := g.y00; omega
theorem Guess.yq {U m Y y1 y0 Q q r : Int} (g : Guess U m Y y1 y0 Q q r) (h : q ≤ 4294967295) : 0 ≤ q * y0 ∧ q * y0 ≤ 18446744073709551615 := by
  have := Int.mul_le_mul h g.y01 g.y00 (by omega)
  exact ⟨Int.mul_nonneg g.q0 g.y00, by omega⟩
theorem Guess.Q1 {U m Y y1 y0 Q q r : Int} (g : Guess U m Y y1 y0 Q q r) : 0 ≤ Q ∧ Q ≤ 4294967295 := by
  have hY := g.Y0; have h0 := g.U0; have h1 := g.m0; have h2 := g.m1; have h3 := g.UY
  rw [g.Qe]
  exact ⟨Int.ediv_nonneg (by omega) (by omega), ediv_le_of (by omega) (by omega)⟩
/-- the test says no: the guess is right -/
theorem Guess.done {U m Y y1 y0 Q q r : Int} (g : Guess U m Y y1 y0 Q q r) (h : q * y0 ≤ 4294967296 * r + m) : q = Q := by
  have hY := g.Y0; have hp := g.prod; have hq := g.Qq
  have : q ≤ Q := by rw [g.Qe]; exact le_ediv_of (by omega) (by omega)
  omega
/-- it says yes: the guess was too great -/
theorem Guess.less {U m Y y1 y0 Q q r : Int} (g : Guess U m Y y1 y0 Q q r) (h : 4294967296 ≤ q ∨ 4294967296 * r + m < q * y0) : Q ≤ q - 1 := by
  have hQ := g.Q1
  rcases h with h | h
  · omega
  · have hY := g.Y0; have hp := g.prod
    have : Q < q := by rw [g.Qe]; exact Int.ediv_lt_of_lt_mul (by omega) (by omega)
    omega
theorem Guess.step {U m Y y1 y0 Q q r : Int} (g : Guess U m Y y1 y0 Q q r) (h : Q ≤ q - 1) (hr : r + y1 ≤ 4294967295) : Guess U m Y y1 y0 Q (q - 1) (r + y1) := by
  have hQ := g.Q1; have h1 := g.q1; have h2 := g.eq; have h3 := g.r0; have h4 := g.y10
  refine ⟨g.U0, g.UY, g.m0, g.m1, g.Ye, g.y10, g.y11, g.y00, g.y01, g.Qe, by omega, by omega, ?_, by omega, hr, h⟩
  rw [Int.sub_mul, Int.one_mul]; omega
/-- what is left has gone beyond the half: the guess is right -/
theorem Guess.out {U m Y y1 y0 Q q r : Int} (g : Guess U m Y y1 y0 Q q r) (h : Q ≤ q - 1) (hr : 4294967296 ≤ r + y1) : q - 1 = Q := by
  have hQ := g.Q1; have hY := g.Y0
  have e : (q - 1) * y1 + (r + y1) = U := by have := g.eq; rw [Int.sub_mul, Int.one_mul]; omega
  have hUY := g.UY; have hYe := g.Ye; have h01 := g.y01; have h00 := g.y00; have h10 := g.y10
  have hq : q - 1 ≤ 4294967295 := by
    by_cases hh : q - 1 ≤ 4294967295
    · exact hh
    · have := Int.mul_le_mul (show (4294967296 : Int) ≤ q - 1 by omega) (Int.le_refl y1) (by omega) (by omega)
      omega
  have hp : (q - 1) * Y = (U - (r + y1)) * 4294967296 + (q - 1) * y0 := by
    rw [hYe, Int.mul_add, ← Int.mul_assoc, show (q - 1) * y1 = U - (r + y1) by omega]
  have := Int.mul_le_mul hq h01 h00 (by omega)
  have hm := g.m0
  have : q - 1 ≤ Q := by rw [g.Qe]; exact le_ediv_of (by omega) (by omega)
  omega

/-- both steps make the whole -/
theorem make (N y p Y T m Q1 R1 Q0 R0 : Int) (hp : 0 < p) (hY : Y = y * p) (hY0 : 0 < Y) (hN : N * p = T * 4294967296 + m) (h1 : Q1 = T / Y) (h2 : R1 = T % Y) (h3 : Q0 = (R1 * 4294967296 + m) / Y) (h4 : R0 = (R1 * 4294967296 + m) % Y) :
    Q1 * 4294967296 + Q0 = N / y ∧ R0 / p = N % y := by
  have hy : 0 < y := by
    by_cases h : 0 < y
    · exact h
    · have := Int.mul_le_mul_of_nonneg_right (show y ≤ 0 by omega) (Int.le_of_lt hp)
      omega
  have a1 := Int.mul_ediv_add_emod T Y
  have a2 := Int.mul_ediv_add_emod (R1 * 4294967296 + m) Y
  rw [← h1, ← h2] at a1
  rw [← h3, ← h4] at a2
  have a3 := Int.emod_nonneg (R1 * 4294967296 + m) (show Y ≠ 0 by omega)
  have a4 := Int.emod_lt_of_pos (R1 * 4294967296 + m) hY0
  rw [← h4] at a3 a4
  -- N * p = (Q1 * 2^32 + Q0) * y * p + R0
  have b1 : N * p = (y * (Q1 * 4294967296 + Q0)) * p + R0 := by
    have c1 : (y * (Q1 * 4294967296 + Q0)) * p = Y * (Q1 * 4294967296 + Q0) := by
      rw [hY, Int.mul_assoc, Int.mul_comm _ p, ← Int.mul_assoc]
    have c2 : Y * (Q1 * 4294967296 + Q0) = (Y * Q1) * 4294967296 + Y * Q0 := by rw [Int.mul_add, ← Int.mul_assoc]
    omega
  -- R0 = p * r
  have b2 : R0 = (N - y * (Q1 * 4294967296 + Q0)) * p := by rw [Int.sub_mul]; omega
  have b3 : R0 / p = N - y * (Q1 * 4294967296 + Q0) := by rw [b2, Int.mul_ediv_cancel _ (by omega)]
  have b4 : 0 ≤ N - y * (Q1 * 4294967296 + Q0) := by rw [← b3]; exact Int.ediv_nonneg a3 (by omega)
  have b5 : N - y * (Q1 * 4294967296 + Q0) < y := by rw [← b3]; exact Int.ediv_lt_of_lt_mul hp (by rw [← hY]; exact a4)
  have b6 : (Q1 * 4294967296 + Q0) = N / y := by
    refine Int.le_antisymm (le_ediv_of hy (by rw [Int.mul_comm]; omega)) (ediv_le_of hy (by rw [Int.add_mul, Int.one_mul, Int.mul_comm _ y]; omega))
  refine ⟨b6, ?_⟩
  rw [b3, b6, Int.emod_def]
end Go.Proofs.YtobijdfnafnodaaGreatDoor.D64
