/- Plain arithmetic: quotients rounded down, and what is left. No program is named here. -/
import Derived.IntWalk
import Derived.RowKit
namespace Go.Proofs.YtobijdfnafnodaaGreatDoor.Ce
set_option maxRecDepth 100000
open Go.RowKit

/-- what is left of a quotient rounded down by b -/
def Near (b r : Int) : Prop := (0 ≤ r ∧ r < b) ∨ (b < r ∧ r ≤ 0)

theorem near_unique {b q r q' r' : Int} (h : b * q + r = b * q' + r') (n : Near b r) (n' : Near b r') : q = q' ∧ r = r' := by
  have hd : b * (q - q') = r' - r := by rw [Int.mul_sub]; omega
  have hq : q - q' = 0 := by
    by_cases h0 : q - q' = 0
    · exact h0
    · exfalso
      rcases n with n | n <;> rcases n' with n' | n'
      · by_cases hp : 0 < q - q'
        · have := Int.mul_le_mul_of_nonneg_left (show (1 : Int) ≤ q - q' by omega) (show 0 ≤ b by omega)
          omega
        · have := Int.mul_le_mul_of_nonneg_left (show (q - q') ≤ -1 by omega) (show 0 ≤ b by omega)
          omega
      · omega
      · omega
      · by_cases hp : 0 < q - q'
        · have := Int.mul_le_mul_of_nonneg_left (show (1 : Int) ≤ q - q' by omega) (show 0 ≤ -b by omega)
          rw [Int.neg_mul, Int.neg_mul] at this
          omega
        · have := Int.mul_le_mul_of_nonneg_left (show (q - q') ≤ -1 by omega) (show 0 ≤ -b by omega)
          rw [Int.neg_mul, Int.neg_mul] at this
          omega
  rw [hq, Int.mul_zero] at hd
  omega

theorem fdiv_near (a b : Int) (hb : b ≠ 0) : b * a.fdiv b + a.fmod b = a ∧ Near b (a.fmod b) := by
  refine ⟨Int.mul_fdiv_add_fmod a b, ?_⟩
  rcases Int.lt_or_gt_of_ne hb with h | h
  · right
    have h1 := Int.fmod_def a b
    have h2 : a.fmod b = -((-a) % (-b)) := by
      have := Int.emod_def (-a) (-b)
      have e : a.fdiv b = (-a) / (-b) := by
        rw [← Int.fdiv_eq_ediv_of_nonneg (-a) (show 0 ≤ -b by omega), Int.neg_fdiv_neg]
      rw [h1, this, e, Int.neg_mul]; omega
    have h3 := Int.emod_nonneg (-a) (show -b ≠ 0 by omega)
    have h4 := Int.emod_lt_of_pos (-a) (show 0 < -b by omega)
    omega
  · left
    rw [Int.fmod_eq_emod_of_nonneg a (by omega)]
    exact ⟨Int.emod_nonneg a hb, Int.emod_lt_of_pos a h⟩

theorem fdiv_of {a b q r : Int} (h : b * q + r = a) (n : Near b r) : q = a.fdiv b ∧ r = a.fmod b := by
  have hb : b ≠ 0 := by rcases n with n | n <;> omega
  obtain ⟨h1, h2⟩ := fdiv_near a b hb
  exact near_unique (h.trans h1.symm) n h2

/-- cut towards 0: what is left has the sign of what was divided -/
theorem tmod_sign (a b : Int) (hb : b ≠ 0) : (a.tmod b < 0 → a < 0) ∧ (0 < a.tmod b → 0 ≤ a) ∧ ((0 < b → -b < a.tmod b ∧ a.tmod b < b) ∧ (b < 0 → b < a.tmod b ∧ a.tmod b < -b)) := by
  have key : ∀ x y : Int, 0 ≤ x → 0 < y → 0 ≤ x.tmod y ∧ x.tmod y < y := fun x y hx hy => by
    rw [Int.tmod_eq_emod_of_nonneg hx]
    exact ⟨Int.emod_nonneg x (by omega), Int.emod_lt_of_pos x hy⟩
  by_cases ha : 0 ≤ a
  · rcases Int.lt_or_gt_of_ne hb with h | h
    · have := key a (-b) ha (by omega)
      rw [Int.tmod_neg] at this
      omega
    · have := key a b ha h
      omega
  · rcases Int.lt_or_gt_of_ne hb with h | h
    · obtain ⟨k1, k2⟩ := key (-a) (-b) (by omega) (by omega)
      rw [Int.tmod_neg, Int.neg_tmod] at k1 k2
      omega
    · obtain ⟨k1, k2⟩ := key (-a) b (by omega) h
      rw [Int.neg_tmod] at k1 k2
      omega

def dbKeep (c r : Int) : Bool := (r == 0) || (decide (r < 0) == decide (c < 0))
theorem dbKeep_false {c r : Int} (h : dbKeep c r = false) : (r == 0) = false ∧ (decide (r < 0) == decide (c < 0)) = false := by
  unfold dbKeep at h; rw [Bool.or_eq_false_iff] at h; exact h
theorem keep_iff {c r : Int} : dbKeep c r = true ↔ (r = 0 ∨ (r < 0 ↔ c < 0)) := by
  unfold dbKeep; rw [Bool.or_eq_true, beq_iff_eq, beq_iff_eq, decide_eq_decide]

theorem tdiv_keep (a b : Int) (hb : b ≠ 0) (h : dbKeep b (a.tmod b) = true) : a.tdiv b = a.fdiv b ∧ a.tmod b = a.fmod b := by
  have hs := tmod_sign a b hb
  rw [keep_iff] at h
  refine fdiv_of (Int.mul_tdiv_add_tmod a b) ?_
  unfold Near
  omega
theorem tdiv_down (a b : Int) (hb : b ≠ 0) (h : dbKeep b (a.tmod b) = false) : a.tdiv b - 1 = a.fdiv b ∧ a.tmod b + b = a.fmod b := by
  have hs := tmod_sign a b hb
  have h' : ¬ (a.tmod b = 0 ∨ (a.tmod b < 0 ↔ b < 0)) := fun k => by rw [← keep_iff, h] at k; cases k
  refine fdiv_of ?_ ?_
  · have := Int.mul_tdiv_add_tmod a b
    rw [Int.mul_sub, Int.mul_one]; omega
  · unfold Near
    omega
end Go.Proofs.YtobijdfnafnodaaGreatDoor.Ce
