/- The document's product and quotient of 128 bits, and sizes: their contracts. -/
import Derived.Test.YtobijdfnafnodaaGreatDoorCellDiv
import Derived.Test.YtobijdfnafnodaaGreatDoorRefMath
import Derived.Test.YtobijdfnafnodaaGreatDoorScaleMath
namespace Go.Proofs.YtobijdfnafnodaaGreatDoor.Ce
set_option maxRecDepth 100000
open Go.ChangeShapes Go.WideShapes Go.ChangeAt Go.RowKit
set_option linter.unusedVariables false

theorem ret2 {a b a' b' : Int} (ha : a = a') (hb : b = b') :
    Ending.returned (.tuple #[.int .u64 a, .int .u64 b]) = .returned (.tuple #[.int .u64 a', .int .u64 b']) := by rw [ha, hb]

set_option maxHeartbeats 400000 in
theorem times_any (a b : Int) (w : World) (a0 : 0 ≤ a) (a1 : a ≤ 18446744073709551615) (b0 : 0 ≤ b) (b1 : b ≤ 18446744073709551615) :
    Calls Tryz.prog 134 #[.int .u64 a, .int .u64 b] w fun e w' => e = .returned (.tuple #[.int .u64 (a * b / 18446744073709551616), .int .u64 (a * b % 18446744073709551616)]) ∧ w = w' := by
  go_enter Tryz.func134, Tryz.ntmps134
  go_wp2
  go_loop [6, 7, 8] (fun h l i => ∃ k : Nat, ∃ hh ll : Int, k ≤ 64 ∧ i = .int .i64 ((k : Int) - 1) ∧ h = .int .u64 hh ∧ l = .int .u64 ll ∧ Bit.TInv a b k hh ll) (fun _ _ i => (intOf i + 1).toNat)
  case atStart => exact ⟨64, 0, 0, Nat.le_refl _, rfl, rfl, rfl, Bit.tstart a b b0 b1⟩
  case round =>
    obtain ⟨k, h, l, hk, rfl, rfl, rfl, I⟩ := hrel
    rcases k with _ | j
    · have I' := Lib.hid I
      clear I
      go_wp2
      go_ret2
      obtain ⟨e1, e2⟩ := Bit.tend I'.out
      exact ⟨ret2 e1 e2, rfl⟩
    · rw [show (((j+1:Nat):Int) - 1) = j from by omega]
      obtain ⟨bit, t, h1, l1, s⟩ := Bit.tstep a0 a1 b0 b1 I
      have x1 := s.hh; have x2 := s.eb; have x3 := s.et; have x4 := s.eh; have x5 := s.h10; have x6 := s.h11; have x7 := s.el; have x8 := s.l10; have x9 := s.l11
      have i1 := I.h0; have i2 := I.l0; have i3 := I.l1
      have S := Lib.hid s
      clear I
      rcases s.bb with rfl | rfl
      · have R := Lib.hid (S.out.no rfl)
        clear s
        go_wp2
        go_round
        case rel => exact ⟨j, h1, l1, by omega, rfl, rfl, rfl, R.out⟩
        case measure => simp only [intOf]; omega
      · obtain ⟨l2, y1, y2, y3, y4, y5⟩ := S.out.yes rfl
        have Y4 := Lib.hid y4
        have Y5 := Lib.hid y5
        clear s y4 y5
        by_cases hlt : l2 < a
        · have hh1 := (Y4.out hlt).1
          go_wp2
          go_round
          case rel => exact ⟨j, h1 + 1, l2, by omega, rfl, rfl, rfl, (Y4.out hlt).2⟩
          case measure => simp only [intOf]; omega
        · go_wp2
          go_round
          case rel => exact ⟨j, h1, l2, by omega, rfl, rfl, rfl, Y5.out (by omega)⟩
          case measure => simp only [intOf]; omega

set_option maxHeartbeats 400000 in
theorem by_any (hi lo c : Int) (w : World) (hi0 : 0 ≤ hi) (hic : hi < c) (c1 : c ≤ 18446744073709551615) (lo0 : 0 ≤ lo) (lo1 : lo ≤ 18446744073709551615) :
    Calls Tryz.prog 136 #[.int .u64 hi, .int .u64 lo, .int .u64 c] w fun e w' => e = .returned (.tuple #[.int .u64 ((hi * 18446744073709551616 + lo) / c), .int .u64 ((hi * 18446744073709551616 + lo) % c)]) ∧ w = w' := by
  obtain ⟨N, hN⟩ : ∃ N, N = hi * 18446744073709551616 + lo := ⟨_, rfl⟩
  rw [← hN]
  have HN := Lib.hid hN
  clear hN
  go_enter Tryz.func136, Tryz.ntmps136
  go_wp2
  go_loop [0, 8, 9] (fun h q i => ∃ k : Nat, ∃ hh qq : Int, k ≤ 64 ∧ i = .int .i64 ((k : Int) - 1) ∧ h = .int .u64 hh ∧ q = .int .u64 qq ∧ Bit.BInv N c k qq hh) (fun _ _ i => (intOf i + 1).toNat)
  case atStart => exact ⟨64, hi, 0, Nat.le_refl _, rfl, rfl, rfl, Bit.bstart HN.out hi0 hic lo0 lo1⟩
  case round =>
    obtain ⟨k, h, q, hk, rfl, rfl, rfl, I⟩ := hrel
    rcases k with _ | j
    · have I' := Lib.hid I
      clear I
      go_wp2
      go_ret2
      obtain ⟨e1, e2⟩ := Bit.bend (by omega) I'.out
      exact ⟨ret2 e1 e2, rfl⟩
    · rw [show (((j+1:Nat):Int) - 1) = j from by omega]
      obtain ⟨bit, ov, h2, h3, s⟩ := Bit.bstep HN.out hi0 hic c1 lo0 lo1 (by omega) I
      have x1 := s.qq; have x2 := s.eb; have x3 := s.eo; have x4 := s.e2; have x5 := s.h20; have x6 := s.h21; have x7 := s.e3; have x8 := s.h30; have x9 := s.h31
      have i1 := I.q0; have i2 := I.h0; have i3 := I.h1
      have S := Lib.hid s
      clear I
      rcases s.oo with rfl | rfl
      · clear s
        by_cases hc : c ≤ h3
        · obtain ⟨h4, y1, y2, y3, y4⟩ := S.out.yes (.inr hc)
          have R := Lib.hid y4
          clear y4
          go_wp2
          go_round
          case rel => exact ⟨j, h4, q * 2 + 1, by omega, rfl, rfl, rfl, R.out⟩
          case measure => simp only [intOf]; omega
        · have R := Lib.hid (S.out.no rfl (by omega))
          go_wp2
          go_round
          case rel => exact ⟨j, h3, q * 2, by omega, rfl, rfl, rfl, R.out⟩
          case measure => simp only [intOf]; omega
      · clear s
        obtain ⟨h4, y1, y2, y3, y4⟩ := S.out.yes (.inl rfl)
        have R := Lib.hid y4
        clear y4
        go_wp2
        go_round
        case rel => exact ⟨j, h4, q * 2 + 1, by omega, rfl, rfl, rfl, R.out⟩
        case measure => simp only [intOf]; omega

/-! ### sizes, signs -/
theorem size_any (a : Int) (w : World) (h : -9223372036854775808 ≤ a ∧ a ≤ 9223372036854775807) :
    Calls Tryz.prog 148 #[.int .i64 a] w fun e w' => e = .returned (.int .u64 (absI a)) ∧ w = w' := by
  by_cases ha : a < 0
  · have e : absI a = -a := by unfold absI; rw [if_pos ha]
    have e1 : IntKind.u64.wrap (-IntKind.u64.wrap a) = -a := by rw [uw, uw]; omega
    rw [e]
    go_enter Tryz.func148, Tryz.ntmps148
    go_wp2
    go_ret
    exact ⟨rfl, rfl⟩
  · have e : absI a = a := by unfold absI; rw [if_neg ha]
    rw [e]
    go_enter Tryz.func148, Tryz.ntmps148
    go_wp2
    go_ret
    exact ⟨rfl, rfl⟩
theorem rsize_any (a : Int) (w : World) (h : -9223372036854775808 ≤ a ∧ a ≤ 9223372036854775807) :
    Calls Tryz.prog 135 #[.int .i64 a] w fun e w' => e = .returned (.int .u64 (absI a)) ∧ w = w' := by
  by_cases ha : a < 0
  · have e : absI a = -a := by unfold absI; rw [if_pos ha]
    rw [e]
    go_enter Tryz.func135, Tryz.ntmps135
    go_wp2
    go_ret
    exact ⟨retI (by omega), rfl⟩
  · have e : absI a = a := by unfold absI; rw [if_neg ha]
    rw [e]
    go_enter Tryz.func135, Tryz.ntmps135
    go_wp2
    go_ret
    exact ⟨rfl, rfl⟩
end Go.Proofs.YtobijdfnafnodaaGreatDoor.Ce
