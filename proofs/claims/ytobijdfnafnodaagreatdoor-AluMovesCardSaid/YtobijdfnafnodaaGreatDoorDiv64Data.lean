/- All the numbers that math/bits.Div64 goes through, each by an equation and its bounds. No program is named here. -/
import Derived.Test.YtobijdfnafnodaaGreatDoorDiv64Math
import Derived.Lib.ItoaNum
namespace Go.Proofs.YtobijdfnafnodaaGreatDoor.D64
set_option maxRecDepth 100000
open Go.RowKit

theorem uw (x : Int) : IntKind.u64.wrap x = x % 18446744073709551616 := by
  simp [IntKind.wrap, IntKind.bits, IntKind.signed]
theorem and32 (a : Int) (h0 : 0 ≤ a) (h1 : a ≤ 18446744073709551615) : bits .and .u64 a 4294967295 = a % 4294967296 := by
  rw [u64_and a 4294967295 h0 (by omega) (by decide) (by decide), show (4294967295 : Int).toNat = 2 ^ 32 - 1 from by decide, Nat.and_two_pow_sub_one_eq_mod]
  omega
theorem or_add (a b : Int) (s : Nat) (ha : 0 ≤ a) (hb : 0 ≤ b) (hb1 : b < 2 ^ s) (hs : s ≤ 63) (h1 : a * 2 ^ s ≤ 18446744073709551615) : bits .or .u64 (a * 2 ^ s) b = a * 2 ^ s + b := by
  have hp : (0 : Int) < 2 ^ s := Int.pow_pos (by decide)
  have h0 : 0 ≤ a * 2 ^ s := Int.mul_nonneg ha (Int.le_of_lt hp)
  have hps : (2 : Int) ^ s ≤ 9223372036854775808 := by
    have := Nat.pow_le_pow_right (show 0 < 2 by decide) hs
    have e : ((2 : Int) ^ s) = ((2 ^ s : Nat) : Int) := by rw [Int.natCast_pow]; rfl
    rw [e]; omega
  rw [u64_or (a * 2 ^ s) b h0 (by omega) hb (by omega)]
  obtain ⟨A, rfl⟩ := Int.eq_ofNat_of_zero_le ha
  obtain ⟨B, rfl⟩ := Int.eq_ofNat_of_zero_le hb
  have e : ((A : Int) * 2 ^ s) = ((2 ^ s * A : Nat) : Int) := by rw [Int.natCast_mul, Int.natCast_pow, Int.mul_comm]; rfl
  rw [e, Int.toNat_natCast, Int.toNat_natCast, ← Nat.two_pow_add_eq_or_of_lt (by
    have e2 : ((2 : Int) ^ s) = ((2 ^ s : Nat) : Int) := by rw [Int.natCast_pow]; rfl
    omega)]
  rfl
theorem len_data (y : Int) (h0 : 0 < y) (h1 : y ≤ 18446744073709551615) : ∃ s : Nat, 64 - (Lib.bitLen y.toNat : Int) = s ∧ s ≤ 63 ∧ 9223372036854775808 ≤ y * 2 ^ s ∧ y * 2 ^ s ≤ 18446744073709551615 := by
  obtain ⟨n, rfl⟩ := Int.eq_ofNat_of_zero_le (show 0 ≤ y by omega)
  have hb := Lib.bitLenAux_bounds 64 n (by omega) (by omega)
  have hl := Lib.bitLen_le n 64 (by omega) (by omega)
  rw [Int.toNat_natCast]
  change 1 ≤ Lib.bitLen n ∧ _ ≤ n ∧ n < 2 ^ Lib.bitLen n at hb
  obtain ⟨b1, b2, b3⟩ := hb
  change 2 ^ (Lib.bitLen n - 1) ≤ n at b2
  generalize Lib.bitLen n = k at *
  refine ⟨64 - k, by omega, by omega, ?_, ?_⟩
  · have e : 2 ^ (k - 1) * 2 ^ (64 - k) = 9223372036854775808 := by rw [← Nat.pow_add, show k - 1 + (64 - k) = 63 by omega]
    have := Nat.mul_le_mul_right (2 ^ (64 - k)) b2
    have e2 : ((n : Int) * 2 ^ (64 - k)) = ((n * 2 ^ (64 - k) : Nat) : Int) := by rw [Int.natCast_mul, Int.natCast_pow]; rfl
    rw [e2]; omega
  · have e : 2 ^ k * 2 ^ (64 - k) = 18446744073709551616 := by rw [← Nat.pow_add, show k + (64 - k) = 64 by omega]
    have := (Nat.mul_lt_mul_right (show 0 < 2 ^ (64 - k) from Nat.pow_pos (by decide))).2 b3
    have e2 : ((n : Int) * 2 ^ (64 - k)) = ((n * 2 ^ (64 - k) : Nat) : Int) := by rw [Int.natCast_mul, Int.natCast_pow]; rfl
    rw [e2]; omega

structure Half (U m Y y1 y0 Q R q p r A B C : Int) : Prop where
  eq : U / y1 = q
  q0 : 0 ≤ q
  q1 : q ≤ 8589934592
  ep : q * y1 = p
  p0 : 0 ≤ p
  p1 : p ≤ 18446744073709551615
  er : U - p = r
  r0 : 0 ≤ r
  r1 : r ≤ 4294967295
  g : Guess U m Y y1 y0 Q q r
  eA : IntKind.u64.wrap (U * 4294967296) = A
  A0 : 0 ≤ A
  A1 : A ≤ 18446744073709551615
  eB : IntKind.u64.wrap (A + m) = B
  B0 : 0 ≤ B
  B1 : B ≤ 18446744073709551615
  eC : IntKind.u64.wrap (Q * Y) = C
  C0 : 0 ≤ C
  C1 : C ≤ 18446744073709551615
  eR : IntKind.u64.wrap (B - C) = R
  R0 : 0 ≤ R
  R1 : R ≤ 18446744073709551615
  RY : R < Y
  Re : R = (U * 4294967296 + m) % Y
  Q0 : 0 ≤ Q
  Q1 : Q ≤ 4294967295

theorem half (U m Y y1 y0 : Int) (U0 : 0 ≤ U) (UY : U < Y) (Y2 : Y ≤ 18446744073709551615) (m0 : 0 ≤ m) (m1 : m ≤ 4294967295) (Ye : Y = y1 * 4294967296 + y0)
    (y10 : 2147483648 ≤ y1) (y11 : y1 ≤ 4294967295) (y00 : 0 ≤ y0) (y01 : y0 ≤ 4294967295) :
    ∃ q p r A B C : Int, Half U m Y y1 y0 ((U * 4294967296 + m) / Y) ((U * 4294967296 + m) % Y) q p r A B C := by
  have g := guess0 U0 UY Y2 m0 m1 Ye y10 y11 y00 y01 rfl (q := U / y1) (r := U - U / y1 * y1) rfl rfl
  have hd := Int.mul_ediv_add_emod (U * 4294967296 + m) Y
  have h1 := Int.emod_nonneg (U * 4294967296 + m) (show Y ≠ 0 by omega)
  have h2 := Int.emod_lt_of_pos (U * 4294967296 + m) (show 0 < Y by omega)
  rw [Int.mul_comm] at hd
  have hp : 0 ≤ U / y1 * y1 := Int.mul_nonneg g.q0 (by omega)
  have hr := g.r0
  refine ⟨U / y1, U / y1 * y1, U - U / y1 * y1, _, _, _, ⟨rfl, g.q0, g.q1, rfl, hp, by omega, rfl, g.r0, g.r1, g, rfl, ?_, ?_, rfl, ?_, ?_, rfl, ?_, ?_, ?_, h1, by omega, h2, rfl, g.Q1.1, g.Q1.2⟩⟩
  all_goals simp only [uw]
  all_goals omega

structure Data (hi lo y : Int) (s : Nat) (Y y1 y0 H L U M m1 m0 : Int) : Prop where
  es : 64 - (Lib.bitLen y.toNat : Int) = s
  s1 : s ≤ 63
  eY : IntKind.u64.wrap (y * 2 ^ s) = Y
  Y0 : 9223372036854775808 ≤ Y
  Y1 : Y ≤ 18446744073709551615
  e1 : Y / 4294967296 = y1
  y10 : 2147483648 ≤ y1
  y11 : y1 ≤ 4294967295
  e0 : bits .and .u64 Y 4294967295 = y0
  y00 : 0 ≤ y0
  y01 : y0 ≤ 4294967295
  eH : IntKind.u64.wrap (hi * 2 ^ s) = H
  eL : lo / 2 ^ (64 - s) = L
  eU : bits .or .u64 H L = U
  U0 : 0 ≤ U
  U1 : U ≤ 18446744073709551615
  UY : U < Y
  eM : IntKind.u64.wrap (lo * 2 ^ s) = M
  M0 : 0 ≤ M
  M1 : M ≤ 18446744073709551615
  em1 : M / 4294967296 = m1
  m10 : 0 ≤ m1
  m11 : m1 ≤ 4294967295
  em0 : bits .and .u64 M 4294967295 = m0
  m00 : 0 ≤ m0
  m01 : m0 ≤ 4294967295
  Ye : Y = y1 * 4294967296 + y0
  Yp : Y = y * 2 ^ s
  N : (hi * 18446744073709551616 + lo) * 2 ^ s = (U * 4294967296 + m1) * 4294967296 + m0

theorem data (hi lo y : Int) (h1 : 0 ≤ hi) (h2 : hi < y) (h3 : y ≤ 18446744073709551615) (h4 : 0 ≤ lo) (h5 : lo ≤ 18446744073709551615) : ∃ s Y y1 y0 H L U M m1 m0, Data hi lo y s Y y1 y0 H L U M m1 m0 := by
  obtain ⟨s, es, s1, k0, k1⟩ := len_data y (by omega) h3
  have hp : (0 : Int) < 2 ^ s := Int.pow_pos (by decide)
  have hpp : (2 : Int) ^ (64 - s) * 2 ^ s = 18446744073709551616 := by rw [← Int.pow_add, show 64 - s + s = 64 by omega]; rfl
  have hp2 : (0 : Int) < 2 ^ (64 - s) := Int.pow_pos (by decide)
  have c0 : 0 ≤ hi * 2 ^ s := Int.mul_nonneg h1 (Int.le_of_lt hp)
  have c1 : (hi + 1) * 2 ^ s ≤ y * 2 ^ s := Int.mul_le_mul_of_nonneg_right (by omega) (Int.le_of_lt hp)
  rw [Int.add_mul, Int.one_mul] at c1
  have L0 : 0 ≤ lo / 2 ^ (64 - s) := Int.ediv_nonneg h4 (Int.le_of_lt hp2)
  have L1 : lo / 2 ^ (64 - s) < 2 ^ s := Int.ediv_lt_of_lt_mul hp2 (by rw [Int.mul_comm]; omega)
  have hY : IntKind.u64.wrap (y * 2 ^ s) = y * 2 ^ s := by rw [uw]; omega
  have hH : IntKind.u64.wrap (hi * 2 ^ s) = hi * 2 ^ s := by rw [uw]; omega
  have hM0 : 0 ≤ IntKind.u64.wrap (lo * 2 ^ s) ∧ IntKind.u64.wrap (lo * 2 ^ s) ≤ 18446744073709551615 := by rw [uw]; omega
  have hlo : lo * 2 ^ s = (lo / 2 ^ (64 - s)) * 18446744073709551616 + IntKind.u64.wrap (lo * 2 ^ s) := by
    have e : lo * 2 ^ s / 18446744073709551616 = lo / 2 ^ (64 - s) := by rw [← hpp, Int.mul_ediv_mul_of_pos_left _ _ hp]
    rw [uw]; omega
  have hU := or_add hi (lo / 2 ^ (64 - s)) s h1 L0 L1 s1 (by omega)
  refine ⟨s, y * 2 ^ s, _, _, _, _, hi * 2 ^ s + lo / 2 ^ (64 - s), _, _, _, ⟨es, s1, hY, k0, k1, rfl, by omega, by omega, rfl, ?_, ?_, rfl, rfl, ?_, by omega, by omega, by omega, rfl, hM0.1, hM0.2, rfl, by omega, by omega, rfl, ?_, ?_, ?_, rfl, ?_⟩⟩
  · rw [and32 _ (by omega) k1]; omega
  · rw [and32 _ (by omega) k1]; omega
  · rw [hH]; exact hU
  · rw [and32 _ hM0.1 hM0.2]; omega
  · rw [and32 _ hM0.1 hM0.2]; omega
  · rw [and32 _ (by omega) k1]; omega
  · rw [and32 _ hM0.1 hM0.2, Int.add_mul, show hi * 18446744073709551616 * 2 ^ s = (hi * 2 ^ s) * 18446744073709551616 by rw [Int.mul_assoc, Int.mul_comm 18446744073709551616, ← Int.mul_assoc]]
    omega

theorem Data.fin {hi lo y : Int} {s : Nat} {Y y1 y0 H L U M m1 m0 : Int} (d : Data hi lo y s Y y1 y0 H L U M m1 m0) {Q1 R1 Q0 R0 : Int} (h1 : Q1 = (U * 4294967296 + m1) / Y) (h2 : R1 = (U * 4294967296 + m1) % Y)
    (h3 : Q0 = (R1 * 4294967296 + m0) / Y) (h4 : R0 = (R1 * 4294967296 + m0) % Y) : Q1 * 4294967296 + Q0 = (hi * 18446744073709551616 + lo) / y ∧ R0 / 2 ^ s = (hi * 18446744073709551616 + lo) % y :=
  make _ y (2 ^ s) Y _ m0 Q1 R1 Q0 R0 (Int.pow_pos (by decide)) d.Yp (by have := d.Y0; omega) d.N h1 h2 h3 h4
end Go.Proofs.YtobijdfnafnodaaGreatDoor.D64
