/- Plain arithmetic of the document's product and quotient of 128 bits, bit by bit. No program is named here. -/
import Derived.Test.YtobijdfnafnodaaGreatDoorDiv64Data
namespace Go.Proofs.YtobijdfnafnodaaGreatDoor.Bit
set_option maxRecDepth 100000
open Go.RowKit

theorem and1 (a : Int) (h0 : 0 ≤ a) (h1 : a ≤ 18446744073709551615) : bits .and .u64 a 1 = a % 2 := by
  rw [u64_and a 1 h0 (by omega) (by decide) (by decide), show (1 : Int).toNat = 1 from rfl, Nat.and_one_is_mod]
  omega
theorem or1 (a b : Int) (ha : 0 ≤ a) (hb : 0 ≤ b) (hb1 : b < 2) (h1 : a * 2 ≤ 18446744073709551615) : bits .or .u64 (a * 2) b = a * 2 + b := by
  have := D64.or_add a b 1 ha hb (by simpa using hb1) (by omega) (by simpa using h1)
  simpa using this
theorem half_step (x : Int) (j : Nat) (_h : 0 ≤ x) : x / 2 ^ j = 2 * (x / 2 ^ (j + 1)) + (x / 2 ^ j) % 2 := by
  have : x / 2 ^ (j + 1) = x / 2 ^ j / 2 := by rw [Int.pow_succ, Int.ediv_ediv_of_nonneg (Int.le_of_lt (Int.pow_pos (by decide)))]
  omega
theorem div_bd (x : Int) (j : Nat) (h : 0 ≤ x) : 0 ≤ x / 2 ^ j ∧ x / 2 ^ j ≤ x :=
  ⟨Int.ediv_nonneg h (Int.le_of_lt (Int.pow_pos (by decide))), Int.ediv_le_self _ h⟩

/-! ### the product -/
structure TInv (a b : Int) (k : Nat) (h l : Int) : Prop where
  h0 : 0 ≤ h
  h1 : h ≤ 18446744073709551615
  l0 : 0 ≤ l
  l1 : l ≤ 18446744073709551615
  e : h * 18446744073709551616 + l = a * (b / 2 ^ k)
structure TStep (a b : Int) (j : Nat) (h l bit t h1 l1 : Int) : Prop where
  hh : h ≤ 9223372036854775807
  eb : bits .and .u64 (b / 2 ^ j) 1 = bit
  et : l / 9223372036854775808 = t
  eh : bits .or .u64 (h * 2) t = h1
  h10 : 0 ≤ h1
  h11 : h1 ≤ 18446744073709551615
  el : IntKind.u64.wrap (l * 2) = l1
  l10 : 0 ≤ l1
  l11 : l1 ≤ 18446744073709551615
  bb : bit = 0 ∨ bit = 1
  no : bit = 0 → TInv a b j h1 l1
  yes : bit = 1 → ∃ l2, IntKind.u64.wrap (l1 + a) = l2 ∧ 0 ≤ l2 ∧ l2 ≤ 18446744073709551615 ∧ (l2 < a → h1 ≤ 18446744073709551614 ∧ TInv a b j (h1 + 1) l2) ∧ (a ≤ l2 → TInv a b j h1 l2)
theorem tstep {a b h l : Int} {j : Nat} (a0 : 0 ≤ a) (a1 : a ≤ 18446744073709551615) (b0 : 0 ≤ b) (b1 : b ≤ 18446744073709551615) (I : TInv a b (j + 1) h l) : ∃ bit t h1 l1, TStep a b j h l bit t h1 l1 := by
  have hs := half_step b j b0
  have hb := div_bd b j b0
  have hb' := div_bd b (j + 1) b0
  obtain ⟨i1, i2, i3, i4, i5⟩ := I
  have hm1 : a * (b / 2 ^ (j + 1)) ≤ 18446744073709551615 * 9223372036854775807 := Int.mul_le_mul a1 (by omega) hb'.1 (by omega)
  have hm2 : a * (b / 2 ^ j) ≤ 18446744073709551615 * 18446744073709551615 := Int.mul_le_mul a1 (by omega) hb.1 (by omega)
  have hbit := and1 (b / 2 ^ j) hb.1 (by omega)
  have hh : h ≤ 9223372036854775807 := by omega
  have hor := or1 h (l / 9223372036854775808) i1 (by omega) (by omega) (by omega)
  have hd : a * (b / 2 ^ j) = 2 * (a * (b / 2 ^ (j + 1))) + a * ((b / 2 ^ j) % 2) := by
    conv => lhs; rw [hs]
    rw [Int.mul_add, ← Int.mul_assoc, Int.mul_comm a 2, Int.mul_assoc]
  refine ⟨(b / 2 ^ j) % 2, l / 9223372036854775808, h * 2 + l / 9223372036854775808, _, ⟨hh, hbit, rfl, hor, by omega, by omega, rfl, ?_, ?_, by omega, ?_, ?_⟩⟩
  · rw [D64.uw]; omega
  · rw [D64.uw]; omega
  · intro hz
    rw [hz, Int.mul_zero] at hd
    refine ⟨by omega, by omega, ?_, ?_, ?_⟩ <;> rw [D64.uw] <;> omega
  · intro hz
    rw [hz, Int.mul_one] at hd
    refine ⟨_, rfl, ?_, ?_, ?_, ?_⟩
    · rw [D64.uw]; omega
    · rw [D64.uw]; omega
    · intro hlt
      rw [D64.uw, D64.uw] at hlt
      refine ⟨by omega, by omega, by omega, ?_, ?_, ?_⟩ <;> rw [D64.uw, D64.uw] <;> omega
    · intro hlt
      rw [D64.uw, D64.uw] at hlt
      refine ⟨by omega, by omega, ?_, ?_, ?_⟩ <;> rw [D64.uw, D64.uw] <;> omega
theorem tstart (a b : Int) (b0 : 0 ≤ b) (b1 : b ≤ 18446744073709551615) : TInv a b 64 0 0 := by
  have : b / 2 ^ 64 = 0 := by rw [show (2 : Int) ^ 64 = 18446744073709551616 from rfl]; omega
  exact ⟨by decide, by decide, by decide, by decide, by rw [this, Int.mul_zero]; rfl⟩
theorem tend {a b h l : Int} (I : TInv a b 0 h l) : h = a * b / 18446744073709551616 ∧ l = a * b % 18446744073709551616 := by
  have e := I.e; have h0 := I.l0; have h1 := I.l1
  rw [Int.pow_zero, Int.ediv_one] at e
  omega

/-! ### the quotient -/
structure BInv (N c : Int) (k : Nat) (q h : Int) : Prop where
  q0 : 0 ≤ q
  q1 : q ≤ 18446744073709551615
  h0 : 0 ≤ h
  h1 : h < c
  e : q * c + h = N / 2 ^ k
structure BStep (N lo c : Int) (j : Nat) (q h bit ov h2 h3 : Int) : Prop where
  qq : q ≤ 9223372036854775807
  eb : bits .and .u64 (lo / 2 ^ j) 1 = bit
  eo : h / 9223372036854775808 = ov
  e2 : IntKind.u64.wrap (h * 2) = h2
  h20 : 0 ≤ h2
  h21 : h2 ≤ 18446744073709551615
  e3 : bits .or .u64 h2 bit = h3
  h30 : 0 ≤ h3
  h31 : h3 ≤ 18446744073709551615
  oo : ov = 0 ∨ ov = 1
  no : ov = 0 → h3 < c → BInv N c j (q * 2) h3
  yes : (ov = 1 ∨ c ≤ h3) → ∃ h4, IntKind.u64.wrap (h3 - c) = h4 ∧ 0 ≤ h4 ∧ h4 ≤ 18446744073709551615 ∧ BInv N c j (q * 2 + 1) h4
theorem bstep {N hi lo c q h : Int} {j : Nat} (hN : N = hi * 18446744073709551616 + lo) (hi0 : 0 ≤ hi) (hic : hi < c) (c1 : c ≤ 18446744073709551615) (lo0 : 0 ≤ lo) (lo1 : lo ≤ 18446744073709551615) (hj : j ≤ 63) (I : BInv N c (j + 1) q h) :
    ∃ bit ov h2 h3, BStep N lo c j q h bit ov h2 h3 := by
  have N0 : 0 ≤ N := by omega
  have hs := half_step N j N0
  have hb' := div_bd N (j + 1) N0
  have hl := div_bd lo j lo0
  obtain ⟨i1, i2, i3, i4, i5⟩ := I
  have hbit := and1 (lo / 2 ^ j) hl.1 (by omega)
  have hsame : (N / 2 ^ j) % 2 = (lo / 2 ^ j) % 2 := by
    have hp : (0 : Int) < 2 ^ j := Int.pow_pos (by decide)
    have e : hi * 18446744073709551616 = (hi * 2 ^ (64 - j)) * 2 ^ j := by
      rw [Int.mul_assoc, ← Int.pow_add, show 64 - j + j = 64 by omega]; rfl
    have e2 : (2 : Int) ^ (64 - j) = 2 * 2 ^ (63 - j) := by rw [show 64 - j = (63 - j) + 1 by omega, Int.pow_succ, Int.mul_comm]
    rw [hN, e, Int.add_comm, Int.add_mul_ediv_right _ _ (by omega), e2, show hi * (2 * 2 ^ (63 - j)) = 2 * (hi * 2 ^ (63 - j)) by rw [← Int.mul_assoc, Int.mul_comm hi 2, Int.mul_assoc]]
    omega
  have hN2 : N / 2 ^ (j + 1) ≤ N / 2 := by
    have hp : (0 : Int) < 2 ^ j := Int.pow_pos (by decide)
    rw [Int.pow_succ, Int.mul_comm, ← Int.ediv_ediv_of_nonneg (show (0 : Int) ≤ 2 by decide)]
    exact Int.ediv_le_self _ (by omega)
  have qq : q ≤ 9223372036854775807 := by
    by_cases hq : q ≤ 9223372036854775807
    · exact hq
    · have := Int.mul_le_mul_of_nonneg_right (show (9223372036854775808 : Int) ≤ q by omega) (show 0 ≤ c by omega)
      omega
  have hw : IntKind.u64.wrap (h * 2) = (h % 9223372036854775808) * 2 := by rw [D64.uw]; omega
  have hor := or1 (h % 9223372036854775808) ((lo / 2 ^ j) % 2) (by omega) (by omega) (by omega) (by omega)
  have hd : (q * 2) * c = 2 * (q * c) := by rw [Int.mul_comm q 2, Int.mul_assoc]
  have hd1 : (q * 2 + 1) * c = 2 * (q * c) + c := by rw [Int.add_mul, Int.one_mul, hd]
  refine ⟨(lo / 2 ^ j) % 2, h / 9223372036854775808, (h % 9223372036854775808) * 2, (h % 9223372036854775808) * 2 + (lo / 2 ^ j) % 2, ⟨qq, hbit, rfl, hw, by omega, by omega, hor, by omega, by omega, by omega, ?_, ?_⟩⟩
  · intro ho hlt
    exact ⟨by omega, by omega, by omega, hlt, by omega⟩
  · intro ho
    have h4 : IntKind.u64.wrap ((h % 9223372036854775808) * 2 + (lo / 2 ^ j) % 2 - c) = h * 2 + (lo / 2 ^ j) % 2 - c := by rw [D64.uw]; omega
    exact ⟨_, h4, by omega, by omega, by omega, by omega, by omega, by omega, by omega⟩
theorem bstart {N hi lo c : Int} (hN : N = hi * 18446744073709551616 + lo) (hi0 : 0 ≤ hi) (hic : hi < c) (lo0 : 0 ≤ lo) (lo1 : lo ≤ 18446744073709551615) : BInv N c 64 0 hi := by
  have : N / 2 ^ 64 = hi := by rw [show (2 : Int) ^ 64 = 18446744073709551616 from rfl]; omega
  exact ⟨by decide, by decide, hi0, hic, by rw [this]; omega⟩
theorem bend {N c q h : Int} (hc : 0 < c) (I : BInv N c 0 q h) : q = N / c ∧ h = N % c := by
  have e := I.e; have h0 := I.h0; have h1 := I.h1
  rw [Int.pow_zero, Int.ediv_one] at e
  have e1 := Int.ediv_emod_unique (a := N) (r := h) (q := q) hc
  have := e1.2 ⟨by rw [Int.mul_comm]; omega, h0, h1⟩
  exact ⟨this.1.symm, this.2.symm⟩
end Go.Proofs.YtobijdfnafnodaaGreatDoor.Bit
