/- Contracts of cell.downBy with its closure, of cell.Div, and of the document's Div. -/
import Derived.Test.YtobijdfnafnodaaGreatDoorCellLeaf
import Derived.Test.YtobijdfnafnodaaGreatDoorCellMath
import Derived.Deep.RegionWith
import Derived.RegionTactic
namespace Go.Proofs.YtobijdfnafnodaaGreatDoor.Ce
set_option maxRecDepth 100000
open Go.ChangeShapes Go.WideShapes Go.ChangeAt Go.RowKit
set_option linter.unusedVariables false

theorem below_drewN {B : Nat} {a w : World} (h : Below B a w) (n : Nat) : Below B a (w.drewN n) := ⟨h.os, h.tape, h.output, h.size, h.block⟩
theorem newcell (w : World) (v : Value) (T : TypeId) : (w.alloc (.cells #[v] T)).cell? ⟨w.heap.size, 0, none⟩ = some v := by
  go_simp
theorem retT {a b : Int} {c : Bool} {a' b' : Int} {c' : Bool} (ha : a = a') (hb : b = b') (hc : c = c') :
    Ending.returned (.tuple #[.int .i64 a, .int .i64 b, .bool c]) = .returned (.tuple #[.int .i64 a', .int .i64 b', .bool c']) := by rw [ha, hb, hc]

theorem downby_any (c : Int) (w : World) :
    Calls Tryz.prog 146 #[.int .i64 c] w fun e w' => e = .returned (.func (Fn.func 160) #[] #[.pointer (some ⟨w.heap.size, 0, none⟩)]) ∧ w.alloc (.cells #[.int .i64 c] 3) = w' := by
  go_enter Tryz.func146, Tryz.ntmps146
  go_wp2
  go_ret
  exact ⟨rfl, rfl⟩

theorem down_keep (c q r : Int) (b : Nat) (w : World) (hc : w.cell? ⟨b, 0, none⟩ = some (.int .i64 c)) (h : dbKeep c r = true) :
    Calls Tryz.prog 160 #[.int .i64 q, .int .i64 r, .pointer (some ⟨b, 0, none⟩)] w fun e w' => e = .returned (.tuple #[.int .i64 q, .int .i64 r, .bool true]) ∧ ∃ n, w' = w.drewN n := by
  unfold dbKeep at h; rw [Bool.or_eq_true] at h
  by_cases hr : (r == 0) = true
  · clear h
    go_enter Tryz.func160, Tryz.ntmps160
    go_wp2
    go_ret3
    exact ⟨rfl, 0, rfl⟩
  · have hr' : (r == 0) = false := by simpa using hr
    have h2 : (decide (r < 0) == decide (c < 0)) = true := h.resolve_left hr
    clear h hr
    go_enter Tryz.func160, Tryz.ntmps160
    go_wp2
    go_ret3
    exact ⟨rfl, 0, rfl⟩
theorem down_none (c q r : Int) (b : Nat) (w : World) (hc : w.cell? ⟨b, 0, none⟩ = some (.int .i64 c)) (h : dbKeep c r = false) (hq : (q == -9223372036854775808) = true) :
    Calls Tryz.prog 160 #[.int .i64 q, .int .i64 r, .pointer (some ⟨b, 0, none⟩)] w fun e w' => e = .returned (.tuple #[.int .i64 0, .int .i64 0, .bool false]) ∧ ∃ n, w' = w.drewN n := by
  obtain ⟨h1, h2⟩ := dbKeep_false h
  clear h
  go_enter Tryz.func160, Tryz.ntmps160
  go_wp2
  go_ret3
  exact ⟨rfl, 0, rfl⟩
theorem down_down (c q r : Int) (b : Nat) (w : World) (hc : w.cell? ⟨b, 0, none⟩ = some (.int .i64 c)) (h : dbKeep c r = false) (hq : (q == -9223372036854775808) = false) :
    Calls Tryz.prog 160 #[.int .i64 q, .int .i64 r, .pointer (some ⟨b, 0, none⟩)] w fun e w' => e = .returned (.tuple #[.int .i64 (wrap64 (q - 1)), .int .i64 (wrap64 (r + c)), .bool true]) ∧ ∃ n, w' = w.drewN n := by
  obtain ⟨h1, h2⟩ := dbKeep_false h
  clear h
  go_enter Tryz.func160, Tryz.ntmps160
  go_wp2
  go_quiet (fail)
  go_wp2
  go_ret3
  exact ⟨rfl, _, rfl⟩

/-! ### cell.Div -/
def dvQ (a b : Int) : Int := if b = 0 then 0 else wrap64 (a.fdiv b)
def dvR (a b : Int) : Int := if b = 0 then 0 else a.fmod b
def dvO (b : Int) : Bool := !(b == 0)
theorem dv_zero (a : Int) : dvQ a 0 = 0 ∧ dvR a 0 = 0 ∧ dvO 0 = false := ⟨rfl, rfl, rfl⟩
theorem dv_keep (a b : Int) (hb : b ≠ 0) (h : dbKeep b (a.tmod b) = true) : dvQ a b = wrap64 (a.tdiv b) ∧ dvR a b = a.tmod b ∧ dvO b = true := by
  obtain ⟨h1, h2⟩ := tdiv_keep a b hb h
  refine ⟨?_, ?_, ?_⟩
  · unfold dvQ; rw [if_neg hb, h1]
  · unfold dvR; rw [if_neg hb, h2]
  · unfold dvO; simpa using hb
theorem big_mul (x y : Int) (hx : 9223372036854775808 ≤ x) (hy : 2 ≤ y) : 18446744073709551616 ≤ x * y := by
  have := Int.mul_le_mul hx hy (by omega) (by omega)
  omega
theorem tdiv_bd (a b : Int) (ha : -9223372036854775808 ≤ a ∧ a ≤ 9223372036854775807) (hbd : -9223372036854775808 ≤ b ∧ b ≤ 9223372036854775807) (hb : b ≠ 0) (hb' : b ≠ -1) : -9223372036854775808 ≤ a.tdiv b ∧ a.tdiv b ≤ 9223372036854775807 := by
  have hm := tmod_sign a b hb
  have h := Int.mul_tdiv_add_tmod a b
  rw [Int.mul_comm] at h
  generalize a.tdiv b = q at *
  generalize a.tmod b = r at *
  by_cases h1 : b = 1
  · subst h1; omega
  refine ⟨?_, ?_⟩
  · by_cases hx : -9223372036854775808 ≤ q
    · exact hx
    · rcases Int.lt_or_gt_of_ne hb with k | k
      · have := big_mul (-q) (-b) (by omega) (by omega)
        rw [Int.neg_mul_neg] at this; omega
      · have := big_mul (-q) b (by omega) (by omega)
        rw [Int.neg_mul] at this; omega
  · by_cases hx : q ≤ 9223372036854775807
    · exact hx
    · rcases Int.lt_or_gt_of_ne hb with k | k
      · have := big_mul q (-b) (by omega) (by omega)
        rw [Int.mul_neg] at this; omega
      · have := big_mul q b (by omega) (by omega)
        omega
theorem dv_down (a b : Int) (ha : -9223372036854775808 ≤ a ∧ a ≤ 9223372036854775807) (hbd : -9223372036854775808 ≤ b ∧ b ≤ 9223372036854775807) (hb : b ≠ 0) (h : dbKeep b (a.tmod b) = false) :
    dvQ a b = wrap64 (wrap64 (a.tdiv b) - 1) ∧ dvR a b = wrap64 (a.tmod b + b) ∧ dvO b = true ∧ (wrap64 (a.tdiv b) == -9223372036854775808) = false := by
  obtain ⟨h1, h2⟩ := tdiv_down a b hb h
  have hm := tmod_sign a b hb
  have hk : ¬ (a.tmod b = 0 ∨ (a.tmod b < 0 ↔ b < 0)) := fun k => by rw [← keep_iff, h] at k; cases k
  have hb1 : b ≠ -1 := by rintro rfl; omega
  have hq := tdiv_bd a b ha hbd hb hb1
  have hnot : a.tdiv b ≠ -9223372036854775808 := by
    intro e
    have h3 := Int.mul_tdiv_add_tmod a b
    rw [e] at h3
    omega
  refine ⟨?_, ?_, ?_, ?_⟩
  · unfold dvQ; rw [if_neg hb, ← h1]; unfold wrap64; omega
  · unfold dvR; rw [if_neg hb, ← h2]; unfold wrap64; omega
  · unfold dvO; simpa using hb
  · rw [beq_eq_false_iff_ne]; unfold wrap64; omega

set_option maxHeartbeats 1000000 in
theorem div_keep (a b : Int) (w : World) (hb0 : (b == 0) = false) (h0 : ¬ b = 0) (hk : dbKeep b (a.tmod b) = true) :
    Calls Tryz.prog 121 #[.int .i64 a, .int .i64 b] w fun e w' => e = .returned (.tuple #[.int .i64 (IntKind.i64.wrap (a.tdiv b)), .int .i64 (a.tmod b), .bool true]) ∧ Below w.heap.size w w' := by
  go_enter Tryz.func121, Tryz.ntmps121
  go_wp2
  go_region_with (first | (go_at_call 146; refine (downby_any _ _).mono ?_; rintro e w' ⟨rfl, rfl⟩) | (go_at_call 160; refine (down_keep b _ _ _ _ ?_ hk).mono ?_; exact newcell _ _ _; rintro e w' ⟨rfl, n, rfl⟩))
  all_goals
    clear hk
    go_wp2
    go_ret3
    exact ⟨rfl, below_drewN ((Below.refl _ _).alloc (Nat.le_refl _) _) _⟩
set_option maxHeartbeats 1000000 in
theorem div_down (a b : Int) (w : World) (hb0 : (b == 0) = false) (h0 : ¬ b = 0) (hk : dbKeep b (a.tmod b) = false) (hq : (IntKind.i64.wrap (a.tdiv b) == -9223372036854775808) = false) :
    Calls Tryz.prog 121 #[.int .i64 a, .int .i64 b] w fun e w' => e = .returned (.tuple #[.int .i64 (wrap64 (IntKind.i64.wrap (a.tdiv b) - 1)), .int .i64 (wrap64 (a.tmod b + b)), .bool true]) ∧ Below w.heap.size w w' := by
  have HQ := Lib.hid hq
  clear hq
  go_enter Tryz.func121, Tryz.ntmps121
  go_wp2
  go_region_with (first | (go_at_call 146; refine (downby_any _ _).mono ?_; rintro e w' ⟨rfl, rfl⟩) | (go_at_call 160; refine (down_down b _ _ _ _ ?_ hk HQ.out).mono ?_; exact newcell _ _ _; rintro e w' ⟨rfl, n, rfl⟩))
  all_goals
    clear hk
    go_wp2
    go_ret3
    exact ⟨rfl, below_drewN ((Below.refl _ _).alloc (Nat.le_refl _) _) _⟩
theorem div_mem (a b : Int) (w : World) (ha : -9223372036854775808 ≤ a ∧ a ≤ 9223372036854775807) (hb : -9223372036854775808 ≤ b ∧ b ≤ 9223372036854775807) :
    Calls Tryz.prog 121 #[.int .i64 a, .int .i64 b] w fun e w' => e = .returned (.tuple #[.int .i64 (dvQ a b), .int .i64 (dvR a b), .bool (dvO b)]) ∧ Below w.heap.size w w' := by
  by_cases h0 : b = 0
  · subst h0
    go_enter Tryz.func121, Tryz.ntmps121
    go_wp2
    go_ret3
    exact ⟨rfl, Below.refl _ _⟩
  have hb0 : (b == 0) = false := by simpa using h0
  by_cases hk : dbKeep b (a.tmod b) = true
  · obtain ⟨e1, e2, e3⟩ := dv_keep a b h0 hk
    rw [e1, e2, e3, ← IntWalk.i64_left]
    exact div_keep a b w hb0 h0 hk
  · have hk : dbKeep b (a.tmod b) = false := by simpa using hk
    obtain ⟨e1, e2, e3, e4⟩ := dv_down a b ha hb h0 hk
    rw [← IntWalk.i64_left (a.tdiv b)] at e1 e4
    rw [e1, e2, e3]
    exact div_down a b w hb0 h0 hk e4

end Go.Proofs.YtobijdfnafnodaaGreatDoor.Ce
