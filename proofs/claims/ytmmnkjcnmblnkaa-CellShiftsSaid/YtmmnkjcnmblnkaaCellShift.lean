/- Shifts there and back. -/
import Derived.Test.YtmmnkjcnmblnkaaCellLeaf
namespace Go.Proofs.Ytmmnkjcnmblnkaa
open Go.RowKit
theorem rsh_bd (a n : Int) : -9223372036854775808 ≤ rshI a n ∧ rshI a n ≤ 9223372036854775807 := by unfold rshI wrap64; omega
/-- shifted to the right, to the left, and to the right again: as at first -/
theorem shift_back (a n : Int) (hn : -9223372036854775808 ≤ n ∧ n ≤ 9223372036854775807) : rshI (lshI (rshI a n) n) n = rshI a n := by
  by_cases h : 0 ≤ n ∧ n ≤ 63
  · rw [rsh_in _ n h, lsh_in _ n h, rsh_in _ n h]
    unfold shrI shlI
    have hp : (0 : Int) < 2 ^ n.toNat := Int.pow_pos (by decide)
    have hu : 0 ≤ IntKind.u64.wrap a ∧ IntKind.u64.wrap a ≤ 18446744073709551615 := by rw [uw]; omega
    have hd := Int.mul_ediv_add_emod (IntKind.u64.wrap a) (2 ^ n.toNat)
    have hm := Int.emod_nonneg (IntKind.u64.wrap a) (show (2 : Int) ^ n.toNat ≠ 0 by omega)
    have hq : 0 ≤ IntKind.u64.wrap a / 2 ^ n.toNat := Int.ediv_nonneg hu.1 (by omega)
    have hq1 : IntKind.u64.wrap a / 2 ^ n.toNat ≤ IntKind.u64.wrap a := Int.ediv_le_self _ hu.1
    generalize IntKind.u64.wrap a = u at *
    generalize (2 : Int) ^ n.toNat = p at *
    generalize u / p = q at *
    -- all of it, but for the wraps: q * p is below 2^64
    have e1 : IntKind.u64.wrap (wrap64 (wrap64 q * p)) = q * p := by
      have c1 : ∃ k : Int, wrap64 q = q - k * 18446744073709551616 := ⟨(q + 9223372036854775808) / 18446744073709551616, by unfold wrap64; omega⟩
      obtain ⟨k, hk⟩ := c1
      have c2 : wrap64 q * p = q * p - (k * p) * 18446744073709551616 := by rw [hk, Int.sub_mul, Int.mul_assoc, Int.mul_comm 18446744073709551616, ← Int.mul_assoc]
      have c3 : 0 ≤ q * p := Int.mul_nonneg hq (by omega)
      have c4 : q * p ≤ u := by rw [Int.mul_comm]; omega
      rw [c2, uw]; unfold wrap64; omega
    rw [e1, Int.mul_ediv_cancel _ (by omega)]
  · rw [rsh_out _ n hn (by omega), rsh_out _ n hn (by omega)]
theorem shift_none (a : Int) (ha : -9223372036854775808 ≤ a ∧ a ≤ 9223372036854775807) : lshI a 0 = a ∧ rshI a 0 = a := by
  rw [lsh_in a 0 (by decide), rsh_in a 0 (by decide)]
  change shlI a 0 = a ∧ wrap64 (shrI a 0) = a
  rw [shl_zero a ha, shr_zero, uw]
  unfold wrap64
  omega

end Go.Proofs.Ytmmnkjcnmblnkaa
