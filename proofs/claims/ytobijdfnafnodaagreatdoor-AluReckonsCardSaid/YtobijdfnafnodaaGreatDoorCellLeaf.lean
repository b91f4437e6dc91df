/- Contracts of package cell's small functions and of the document's answers for them: Below, Within, Flag, Left, Right, size, signed. -/
import Derived.Test.YtobijdfnafnodaaGreatDoorRows
import Derived.WalkKit
import Derived.ProofKit
import Derived.OpenShut
import Derived.WalkLawsBesides
import Derived.WalkSpells
import Derived.Outline
import Derived.Lib.Hide
import Derived.Below
import Derived.Deep.QuietTactic
import Derived.BigQuiet
import Derived.IntWalk
namespace Go.Proofs.YtobijdfnafnodaaGreatDoor.Ce
set_option maxRecDepth 100000
open Go.ChangeShapes Go.WideShapes Go.ChangeAt Go.RowKit
set_option linter.unusedVariables false

/-! ### numbers -/
def belB (a b : Int) : Bool := decide (IntKind.u64.wrap a < IntKind.u64.wrap b)
def flagI (b : Bool) : Int := if b then -1 else 0
def lshI (a n : Int) : Int := wrap64 (a * 2 ^ min (IntKind.u64.wrap n).toNat 64)
def rshI (a n : Int) : Int := wrap64 (IntKind.u64.wrap a / 2 ^ min (IntKind.u64.wrap n).toNat 64)

theorem uw (x : Int) : IntKind.u64.wrap x = x % 18446744073709551616 := by
  simp [IntKind.wrap, IntKind.bits, IntKind.signed]
theorem retI {k : IntKind} {a b : Int} (h : a = b) : Ending.returned (.int k a) = .returned (.int k b) := by rw [h]
theorem retB {a b : Bool} (h : a = b) : Ending.returned (.bool a) = .returned (.bool b) := by rw [h]

/-! ### cell.Below, cell.Within, cell.Flag -/
theorem below_any (a b : Int) (w : World) :
    Calls Tryz.prog 82 #[.int .i64 a, .int .i64 b] w fun e w' => e = .returned (.bool (belB a b)) ∧ w = w' := by
  go_enter Tryz.func82, Tryz.ntmps82
  go_wp2
  go_ret
  exact ⟨rfl, rfl⟩

theorem within_any (a b c : Int) (w : World) :
    Calls Tryz.prog 90 #[.int .i64 a, .int .i64 b, .int .i64 c] w fun e w' => e = .returned (.bool (belB (wrap64 (a - b)) (wrap64 (c - b)))) ∧ w = w' := by
  go_enter Tryz.func90, Tryz.ntmps90
  go_wp2_with (go_at_call 82; refine (below_any _ _ _).mono ?_; rintro e w' ⟨rfl, rfl⟩)
  go_ret
  exact ⟨rfl, rfl⟩

theorem flag_any (b : Bool) (w : World) :
    Calls Tryz.prog 17 #[.bool b] w fun e w' => e = .returned (.int .i64 (flagI b)) ∧ w = w' := by
  cases b
  all_goals
    go_enter Tryz.func17, Tryz.ntmps17
    go_wp2
    go_ret
    exact ⟨rfl, rfl⟩

/-! ### the document's Below -/
theorem rbelow_any (a b : Int) (w : World) (ha : -9223372036854775808 ≤ a ∧ a ≤ 9223372036854775807) (hb : -9223372036854775808 ≤ b ∧ b ≤ 9223372036854775807) :
    Calls Tryz.prog 42 #[.int .i64 a, .int .i64 b] w fun e w' => e = .returned (.bool (belB a b)) ∧ w = w' := by
  have H : Hid (∀ x y : Bool, x = y → Ending.returned (.bool x) = .returned (.bool y)) := fun x y h => retB h
  have H1 : Hid ((a < 0 ↔ ¬ b < 0) → belB a b = decide (b < 0)) := by
    intro h; unfold belB; rw [uw, uw, decide_eq_decide]; omega
  have H2 : Hid ((a < 0 ↔ b < 0) → belB a b = decide (a < b)) := by
    intro h; unfold belB; rw [uw, uw, decide_eq_decide]; omega
  by_cases h1 : a < 0
  all_goals by_cases h2 : b < 0
  all_goals
    go_enter Tryz.func42, Tryz.ntmps42
    go_wp2
    go_ret
    refine ⟨?_, rfl⟩
    first
      | (rw [H1.out (by omega)]; exact retB (by simp [h2]; try omega))
      | (rw [H2.out (by omega)]; exact retB (by simp))

/-! ### cell.Left, cell.Right -/
theorem left_any (a n : Int) (w : World) :
    Calls Tryz.prog 73 #[.int .i64 a, .int .i64 n] w fun e w' => e = .returned (.int .i64 (lshI a n)) ∧ w = w' := by
  go_enter Tryz.func73, Tryz.ntmps73
  go_wp2
  go_ret
  exact ⟨rfl, rfl⟩
theorem right_any (a n : Int) (w : World) :
    Calls Tryz.prog 74 #[.int .i64 a, .int .i64 n] w fun e w' => e = .returned (.int .i64 (rshI a n)) ∧ w = w' := by
  go_enter Tryz.func74, Tryz.ntmps74
  go_wp2
  go_ret
  exact ⟨rfl, rfl⟩

/-! ### the document's Left, Right -/
def shlI (a : Int) (k : Nat) : Int := wrap64 (a * 2 ^ k)
theorem shl_zero (a : Int) (h : -9223372036854775808 ≤ a ∧ a ≤ 9223372036854775807) : shlI a 0 = a := by
  unfold shlI wrap64; rw [Int.pow_zero, Int.mul_one]; omega
theorem shl_step (a : Int) (k : Nat) : wrap64 (shlI a k + shlI a k) = shlI a (k + 1) := by
  unfold shlI
  rw [show a * 2 ^ (k + 1) = a * 2 ^ k + a * 2 ^ k from by rw [Int.pow_succ]; rw [← Int.mul_assoc]; omega]
  generalize a * 2 ^ k = x
  unfold wrap64; omega
def shrI (a : Int) (k : Nat) : Int := IntKind.u64.wrap a / 2 ^ k
theorem shr_bd (a : Int) (k : Nat) : 0 ≤ shrI a k ∧ shrI a k ≤ 18446744073709551615 := by
  have hp : (0 : Int) < 2 ^ k := Int.pow_pos (by decide)
  have h : 0 ≤ IntKind.u64.wrap a ∧ IntKind.u64.wrap a ≤ 18446744073709551615 := by rw [uw]; omega
  unfold shrI
  exact ⟨Int.ediv_nonneg h.1 (Int.le_of_lt hp), Int.le_trans (Int.ediv_le_self _ h.1) h.2⟩
theorem shr_zero (a : Int) : shrI a 0 = IntKind.u64.wrap a := by unfold shrI; rw [Int.pow_zero, Int.ediv_one]
theorem shr_step (a : Int) (k : Nat) : shrI a k / 2 = shrI a (k + 1) := by
  unfold shrI
  rw [Int.pow_succ, Int.ediv_ediv_of_nonneg (Int.le_of_lt (Int.pow_pos (by decide)))]
theorem u_in (n : Int) (h : 0 ≤ n ∧ n ≤ 63) : IntKind.u64.wrap n = n := by rw [uw]; omega
theorem lsh_in (a n : Int) (h : 0 ≤ n ∧ n ≤ 63) : lshI a n = shlI a n.toNat := by
  unfold lshI shlI; rw [u_in n h, show min n.toNat 64 = n.toNat from by omega]
theorem lsh_out (a n : Int) (hn : -9223372036854775808 ≤ n ∧ n ≤ 9223372036854775807) (h : n < 0 ∨ 63 < n) : lshI a n = 0 := by
  unfold lshI; rw [uw, show min (n % 18446744073709551616).toNat 64 = 64 from by omega, show (2 : Int) ^ 64 = 18446744073709551616 from by decide]
  unfold wrap64; omega
theorem rsh_in (a n : Int) (h : 0 ≤ n ∧ n ≤ 63) : rshI a n = wrap64 (shrI a n.toNat) := by
  unfold rshI shrI; rw [u_in n h, show min n.toNat 64 = n.toNat from by omega]
theorem rsh_out (a n : Int) (hn : -9223372036854775808 ≤ n ∧ n ≤ 9223372036854775807) (h : n < 0 ∨ 63 < n) : rshI a n = 0 := by
  unfold rshI; rw [uw, uw, show min (n % 18446744073709551616).toNat 64 = 64 from by omega, show (2 : Int) ^ 64 = 18446744073709551616 from by decide]
  unfold wrap64; omega
theorem rleft_any (a n : Int) (w : World) (ha : -9223372036854775808 ≤ a ∧ a ≤ 9223372036854775807) (hn : -9223372036854775808 ≤ n ∧ n ≤ 9223372036854775807) :
    Calls Tryz.prog 106 #[.int .i64 a, .int .i64 n] w fun e w' => e = .returned (.int .i64 (lshI a n)) ∧ w = w' := by
  have HI := Lib.hid (lsh_in a n)
  have HO := Lib.hid (lsh_out a n)
  by_cases h0 : n < 0
  · go_enter Tryz.func106, Tryz.ntmps106
    go_wp2
    go_ret
    exact ⟨by rw [HO.out hn (by omega)]; rfl, rfl⟩
  by_cases h1 : 63 < n
  · go_enter Tryz.func106, Tryz.ntmps106
    go_wp2
    go_ret
    exact ⟨by rw [HO.out hn (by omega)]; rfl, rfl⟩
  obtain ⟨m, rfl⟩ := Int.eq_ofNat_of_zero_le (show 0 ≤ n by omega)
  have HZ := Lib.hid (shl_zero a ha)
  go_enter Tryz.func106, Tryz.ntmps106
  go_wp2
  go_loop [0, 5] (fun x i => ∃ k : Nat, k ≤ m ∧ i = .int .i64 k ∧ x = .int .i64 (shlI a k)) (fun _ i => m - (intOf i).toNat)
  case atStart => exact ⟨0, Nat.zero_le _, rfl, by rw [HZ.out]⟩
  case round =>
    obtain ⟨k, hk, rfl, rfl⟩ := hrel
    have HS := Lib.hid (shl_step a k)
    by_cases hlt : k < m
    · go_wp2
      go_round
      case rel => exact ⟨k + 1, by omega, by go_num, by rw [HS.out]⟩
      case measure => simp [intOf]; omega
    · go_wp2
      go_ret
      exact ⟨retI (by rw [HI.out (by omega), Int.toNat_natCast, show m = k from by omega]), rfl⟩

theorem rright_any (a n : Int) (w : World) (hn : -9223372036854775808 ≤ n ∧ n ≤ 9223372036854775807) :
    Calls Tryz.prog 107 #[.int .i64 a, .int .i64 n] w fun e w' => e = .returned (.int .i64 (rshI a n)) ∧ w = w' := by
  have HI := Lib.hid (rsh_in a n)
  have HO := Lib.hid (rsh_out a n)
  by_cases h0 : n < 0
  · go_enter Tryz.func107, Tryz.ntmps107
    go_wp2
    go_ret
    exact ⟨by rw [HO.out hn (by omega)]; rfl, rfl⟩
  by_cases h1 : 63 < n
  · go_enter Tryz.func107, Tryz.ntmps107
    go_wp2
    go_ret
    exact ⟨by rw [HO.out hn (by omega)]; rfl, rfl⟩
  obtain ⟨m, rfl⟩ := Int.eq_ofNat_of_zero_le (show 0 ≤ n by omega)
  have HZ := Lib.hid (shr_zero a)
  go_enter Tryz.func107, Tryz.ntmps107
  go_wp2
  go_loop [5, 6] (fun x i => ∃ k : Nat, k ≤ m ∧ i = .int .i64 k ∧ x = .int .u64 (shrI a k)) (fun _ i => m - (intOf i).toNat)
  case atStart => exact ⟨0, Nat.zero_le _, rfl, by rw [HZ.out]⟩
  case round =>
    obtain ⟨k, hk, rfl, rfl⟩ := hrel
    have HS := Lib.hid (shr_step a k)
    obtain ⟨hb0, hb1⟩ := shr_bd a k
    by_cases hlt : k < m
    · go_wp2
      go_round
      case rel => exact ⟨k + 1, by omega, by go_num, by rw [← HS.out]⟩
      case measure => simp [intOf]; omega
    · go_wp2
      go_ret
      exact ⟨retI (by rw [HI.out (by omega), Int.toNat_natCast, show m = k from by omega]), rfl⟩
end Go.Proofs.YtobijdfnafnodaaGreatDoor.Ce
