/- What is left of a quotient is near; scaled is divided, where the product is a cell. -/
import Derived.Test.YtmmnkjcnmblnkaaCellDiv
import Derived.Test.YtmmnkjcnmblnkaaScaleMath
namespace Go.Proofs.Ytmmnkjcnmblnkaa
open Go.RowKit
theorem wrap_mul (q b : Int) : ∃ k : Int, wrap64 (wrap64 q * b) = q * b + k * 18446744073709551616 := by
  obtain ⟨k, hk⟩ : ∃ k : Int, wrap64 q = q - k * 18446744073709551616 := ⟨(q + 9223372036854775808) / 18446744073709551616, by unfold wrap64; omega⟩
  have c2 : wrap64 q * b = q * b - (k * b) * 18446744073709551616 := by rw [hk, Int.sub_mul, Int.mul_assoc, Int.mul_comm 18446744073709551616, ← Int.mul_assoc]
  refine ⟨-(k * b) - (wrap64 q * b + 9223372036854775808) / 18446744073709551616, ?_⟩
  rw [show wrap64 (wrap64 q * b) = wrap64 q * b - (wrap64 q * b + 9223372036854775808) / 18446744073709551616 * 18446744073709551616 by unfold wrap64; omega, c2]
  omega
theorem dv_near (a b : Int) (ha : -9223372036854775808 ≤ a ∧ a ≤ 9223372036854775807) (h0 : b ≠ 0) :
    ∃ q r : Int, dvQ a b = q ∧ dvR a b = r ∧ dvO b = true ∧ wrap64 (wrap64 (q * b) + r) = a ∧ ((0 ≤ r ∧ r < b) ∨ (b < r ∧ r ≤ 0)) := by
  obtain ⟨h1, h2⟩ := fdiv_near a b h0
  refine ⟨wrap64 (a.fdiv b), a.fmod b, by unfold dvQ; rw [if_neg h0], by unfold dvR; rw [if_neg h0], by unfold dvO; simpa using h0, ?_, h2⟩
  obtain ⟨k, hk⟩ := wrap_mul (a.fdiv b) b
  rw [hk, Int.mul_comm (a.fdiv b) b]
  unfold wrap64
  omega
/-- where the product is a cell, scaled is divided -/
theorem sc_dv (a b c : Int) (ha : -2147483648 ≤ a ∧ a ≤ 2147483647) (hb : -2147483648 ≤ b ∧ b ≤ 2147483647) :
    scQ (a * b) c = dvQ (a * b) c ∧ scR (a * b) c = dvR (a * b) c ∧ scO (a * b) c = dvO c ∧ -4611686018427387904 ≤ a * b ∧ a * b ≤ 4611686018427387904 := by
  have hA : absI a ≤ 2147483648 ∧ 0 ≤ absI a := by unfold absI; split <;> omega
  have hB : absI b ≤ 2147483648 ∧ 0 ≤ absI b := by unfold absI; split <;> omega
  have hm := Int.mul_le_mul hA.1 hB.1 hB.2 (by omega)
  have hn := Int.mul_nonneg hA.2 hB.2
  have hp := prod_sign a b
  have hbd : -4611686018427387904 ≤ a * b ∧ a * b ≤ 4611686018427387904 := by rw [hp]; split <;> omega
  generalize a * b = P at *
  by_cases h0 : c = 0
  · subst h0
    obtain ⟨z1, z2, z3⟩ := sc_no P 0 (.inl rfl)
    exact ⟨z2, z3, z1, hbd⟩
  · have hq : -9223372036854775808 ≤ P.fdiv c ∧ P.fdiv c ≤ 9223372036854775807 := by
      obtain ⟨h1, h2⟩ := fdiv_near P c h0
      generalize P.fdiv c = q at *
      generalize P.fmod c = r at *
      unfold Near at h2
      rcases Int.lt_or_gt_of_ne h0 with k | k
      · constructor
        · by_cases hx : -9223372036854775808 ≤ q
          · exact hx
          · have := Int.mul_le_mul_of_nonneg_right (show (9223372036854775808 : Int) ≤ -q by omega) (show 0 ≤ -c by omega)
            rw [Int.neg_mul_neg, Int.mul_comm q c] at this; omega
        · by_cases hx : q ≤ 9223372036854775807
          · exact hx
          · have := Int.mul_le_mul_of_nonneg_right (show (9223372036854775808 : Int) ≤ q by omega) (show 0 ≤ -c by omega)
            rw [Int.mul_neg q c, Int.mul_comm q c] at this; omega
      · constructor
        · by_cases hx : -9223372036854775808 ≤ q
          · exact hx
          · have := Int.mul_le_mul_of_nonneg_right (show (9223372036854775808 : Int) ≤ -q by omega) (show 0 ≤ c by omega)
            rw [Int.neg_mul, Int.mul_comm q c] at this; omega
        · by_cases hx : q ≤ 9223372036854775807
          · exact hx
          · have := Int.mul_le_mul_of_nonneg_right (show (9223372036854775808 : Int) ≤ q by omega) (show 0 ≤ c by omega)
            rw [Int.mul_comm q c] at this; omega
    obtain ⟨z1, z2, z3⟩ := sc_yes P c h0 hq.1 hq.2
    refine ⟨?_, ?_, ?_, hbd⟩
    · rw [z2]; unfold dvQ; rw [if_neg h0]; exact (IntWalk.wrap64_in _ hq).symm
    · rw [z3]; unfold dvR; rw [if_neg h0]
    · rw [z1]; unfold dvO; simpa using h0
/-- scaled by one of both it is the other one -/
theorem sc_self (a c : Int) (ha : -9223372036854775808 ≤ a ∧ a ≤ 9223372036854775807) (h0 : c ≠ 0) : scQ (a * c) c = a ∧ scR (a * c) c = 0 ∧ scO (a * c) c = true := by
  have hf : a = (a * c).fdiv c ∧ 0 = (a * c).fmod c := fdiv_of (by rw [Int.mul_comm c a]; omega) (by unfold Near; omega)
  obtain ⟨z1, z2, z3⟩ := sc_yes (a * c) c h0 (by rw [← hf.1]; exact ha.1) (by rw [← hf.1]; exact ha.2)
  exact ⟨by rw [z2, ← hf.1], by rw [z3, ← hf.2], z1⟩
end Go.Proofs.Ytmmnkjcnmblnkaa
