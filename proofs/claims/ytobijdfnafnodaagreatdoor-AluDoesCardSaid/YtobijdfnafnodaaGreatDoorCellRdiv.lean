/- The document's Div, its contract. -/
import Derived.Test.YtobijdfnafnodaaGreatDoorCellDiv
namespace Go.Proofs.YtobijdfnafnodaaGreatDoor.Ce
set_option maxRecDepth 100000
open Go.ChangeShapes Go.WideShapes Go.ChangeAt Go.RowKit
set_option linter.unusedVariables false

/-- all of a quotient, in one linear statement (p stands for the product) -/
theorem dv_lin (a b : Int) (ha : -9223372036854775808 ≤ a ∧ a ≤ 9223372036854775807) (hb : -9223372036854775808 ≤ b ∧ b ≤ 9223372036854775807) (h0 : ¬ b = 0) (h1 : ¬ b = -1) :
    ∃ q p r : Int, a.tdiv b = q ∧ q * b = p ∧ a - p = r ∧ -9223372036854775808 ≤ q ∧ q ≤ 9223372036854775807 ∧ -9223372036854775808 ≤ p ∧ p ≤ 9223372036854775807 ∧ -9223372036854775808 < r ∧ r ≤ 9223372036854775807 ∧
      ((r = 0 ∨ (r < 0 ↔ b < 0)) → dvQ a b = q ∧ dvR a b = r) ∧ (¬ (r = 0 ∨ (r < 0 ↔ b < 0)) → dvQ a b = q - 1 ∧ dvR a b = r + b ∧ -9223372036854775808 < q ∧ -9223372036854775808 ≤ r + b ∧ r + b ≤ 9223372036854775807) ∧ dvO b = true := by
  have hm := Int.mul_tdiv_add_tmod a b
  have hs := tmod_sign a b h0
  have hq := tdiv_bd a b ha hb h0 h1
  rw [Int.mul_comm] at hm
  refine ⟨a.tdiv b, a.tdiv b * b, a.tmod b, rfl, rfl, by omega, hq.1, hq.2, by omega, by omega, by omega, by omega, ?_, ?_, ?_⟩
  · intro hk
    obtain ⟨e1, e2, _⟩ := dv_keep a b h0 (keep_iff.2 hk)
    exact ⟨by rw [e1]; exact IntWalk.wrap64_in _ hq, e2⟩
  · intro hk
    have hk' : dbKeep b (a.tmod b) = false := by rw [Bool.eq_false_iff]; exact fun k => hk (keep_iff.1 k)
    obtain ⟨e1, e2, e3, e4⟩ := dv_down a b ha hb h0 hk'
    rw [IntWalk.wrap64_in _ hq] at e1 e4
    have e5 : a.tdiv b ≠ -9223372036854775808 := by simpa using e4
    rw [IntWalk.wrap64_in _ (by omega)] at e1 e2
    exact ⟨e1, e2, by omega, by omega, by omega⟩
  · unfold dvO; simpa using h0

theorem dv_m1 (a : Int) (ha : -9223372036854775808 ≤ a ∧ a ≤ 9223372036854775807) : dvQ a (-1) = wrap64 (-a) ∧ dvR a (-1) = 0 := by
  have h : dbKeep (-1) (a.tmod (-1)) = true := by rw [Int.tmod_neg, Int.tmod_one]; rfl
  obtain ⟨e1, e2, _⟩ := dv_keep a (-1) (by decide) h
  rw [e1, e2, Int.tmod_neg, Int.tmod_one, Int.tdiv_neg, Int.tdiv_one]
  exact ⟨rfl, rfl⟩

set_option maxHeartbeats 400000 in
theorem rdiv_any (a b : Int) (w : World) (ha : -9223372036854775808 ≤ a ∧ a ≤ 9223372036854775807) (hb : -9223372036854775808 ≤ b ∧ b ≤ 9223372036854775807) :
    Calls Tryz.prog 100 #[.int .i64 a, .int .i64 b] w fun e w' => e = .returned (.tuple #[.int .i64 (dvQ a b), .int .i64 (dvR a b), .bool (dvO b)]) ∧ w = w' := by
  by_cases h0 : b = 0
  · subst h0
    go_enter Tryz.func100, Tryz.ntmps100
    go_wp2
    go_ret3
    exact ⟨rfl, rfl⟩
  have hb0 : (b == 0) = false := by simpa using h0
  by_cases h1 : b = -1
  · subst h1
    obtain ⟨e1, e2⟩ := dv_m1 a ha
    rw [e1, e2]
    go_enter Tryz.func100, Tryz.ntmps100
    go_wp2
    go_ret3
    exact ⟨rfl, rfl⟩
  have hb1 : (b == -1) = false := by simpa using h1
  obtain ⟨q, p, r, eq, ep, er, hq1, hq2, hp1, hp2, hr1, hr2, K1, K2, K3⟩ := dv_lin a b ha hb h0 h1
  have K1' := Lib.hid K1
  have K2' := Lib.hid K2
  have K3' := Lib.hid K3
  clear K1 K2 K3
  go_enter Tryz.func100, Tryz.ntmps100
  go_wp2
  all_goals
    have K1 := K1'.out
    have K2 := K2'.out
    have K3 := K3'.out
    go_ret3
    refine ⟨retT ?_ ?_ K3.symm, rfl⟩
    all_goals first | omega | (unfold wrap64; omega)
end Go.Proofs.YtobijdfnafnodaaGreatDoor.Ce
