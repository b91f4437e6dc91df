/- math/bits.Div64: its contract. -/
import Derived.Test.YtobijdfnafnodaaGreatDoorCellDiv
import Derived.Test.YtobijdfnafnodaaGreatDoorShelf
import Derived.Test.YtobijdfnafnodaaGreatDoorDiv64Data
import Derived.Deep.DeepCutAuto
import Derived.Deep.CutBlock
import Derived.LoopTactic
namespace Go.Proofs.YtobijdfnafnodaaGreatDoor.Ce
set_option maxRecDepth 100000
open Go.ChangeShapes Go.WideShapes Go.ChangeAt Go.RowKit
set_option linter.unusedVariables false

theorem lz_any (y : Int) (s : Nat) (w : World) (h0 : 0 ≤ y) (h1 : y ≤ 18446744073709551615) (hs : 64 - (Lib.bitLen y.toNat : Int) = s) : Calls Tryz.prog 162 #[.int .u64 y] w fun e w' => e = .returned (.int .i64 s) ∧ w = w' := by
  have := Tryz.bits_LeadingZeros64 y w h0 h1
  rw [hs] at this
  exact this.mono fun _ _ ⟨a, b⟩ => ⟨a, b.symm⟩
def GuessX (U m Y y1 y0 Q : Int) (a b : Value) (w w' : World) : Prop := ∃ q r : Int, a = .int .u64 q ∧ b = .int .u64 r ∧ w' = w ∧ D64.Guess U m Y y1 y0 Q q r

set_option maxHeartbeats 1000000 in
theorem div64_big (hi lo y : Int) (w : World) (h1 : 0 < hi) (h2 : hi < y) (h3 : y ≤ 18446744073709551615) (h4 : 0 ≤ lo) (h5 : lo ≤ 18446744073709551615) :
    Calls Tryz.prog 149 #[.int .u64 hi, .int .u64 lo, .int .u64 y] w fun e w' => e = .returned (.tuple #[.int .u64 ((hi * 18446744073709551616 + lo) / y), .int .u64 ((hi * 18446744073709551616 + lo) % y)]) ∧ w = w' := by
  obtain ⟨s, Y, y1, y0, H, L, U, M, m1, m0, d⟩ := D64.data hi lo y (by omega) h2 h3 h4 h5
  obtain ⟨q, p, r, A, B, C, k1⟩ := D64.half U m1 Y y1 y0 d.U0 d.UY d.Y1 d.m10 d.m11 d.Ye d.y10 d.y11 d.y00 d.y01
  obtain ⟨q', p', r', A', B', C', k2⟩ := D64.half ((U * 4294967296 + m1) % Y) m0 Y y1 y0 k1.R0 k1.RY d.Y1 d.m00 d.m01 d.Ye d.y10 d.y11 d.y00 d.y01
  obtain ⟨f1, f2⟩ := d.fin rfl rfl rfl rfl
  have F1 := Lib.hid f1
  have F2 := Lib.hid f2
  clear f1 f2
  generalize hQ1 : (U * 4294967296 + m1) / Y = Q1 at *
  generalize hR1 : (U * 4294967296 + m1) % Y = R1 at *
  generalize hQ0 : (R1 * 4294967296 + m0) / Y = Q0 at *
  generalize hR0 : (R1 * 4294967296 + m0) % Y = R0 at *
  clear hQ1 hR1 hQ0 hR0
  have e1 : (y == 0) = false := by rw [beq_eq_false_iff_ne]; omega
  have e2 : (hi == 0) = false := by rw [beq_eq_false_iff_ne]; omega
  have e3 : decide (y ≤ hi) = false := by rw [decide_eq_false_iff_not]; omega
  have HS := Lib.hid d.es
  have s1 := d.s1; have eY := d.eY; have dY0 := d.Y0; have dY1 := d.Y1; have de1 := d.e1; have dy10 := d.y10; have dy11 := d.y11; have de0 := d.e0; have dy00 := d.y00; have dy01 := d.y01
  have eH := d.eH; have eL := d.eL; have eU := d.eU; have dU0 := d.U0; have dU1 := d.U1; have eM := d.eM; have dM0 := d.M0; have dM1 := d.M1; have em1 := d.em1; have dm10 := d.m10; have dm11 := d.m11; have em0 := d.em0; have dm00 := d.m00; have dm01 := d.m01
  have z1 : ¬ y1 = 0 := by omega
  have a1 := k1.eq; have a2 := k1.q0; have a3 := k1.q1; have a4 := k1.ep; have a5 := k1.p0; have a6 := k1.p1; have a7 := k1.er; have a8 := k1.r0; have a9 := k1.r1
  clear d
  go_enter Tryz.func149, Tryz.ntmps149
  go_upto_block 0 with (go_at_call 162; refine (lz_any y s _ (by omega) (by omega) HS.out).mono ?_; rintro e w' ⟨rfl, rfl⟩)
  go_cut [15, 16] from 67 to 85 (fun a b w' => ∃ r, a = .int .u64 Q1 ∧ b = .int .u64 r ∧ w = w')
  case first =>
    go_wp2_with fail
    go_loop [15, 16] (fun a b => ∃ q r : Int, a = .int .u64 q ∧ b = .int .u64 r ∧ D64.Guess U m1 Y y1 y0 Q1 q r) (fun a _ => (intOf a).toNat)
    case atStart => exact ⟨_, _, by rw [k1.eq], rfl, k1.g⟩
    case round =>
      clear a1 a4 a7
      obtain ⟨q, r, rfl, rfl, g⟩ := hrel
      have G := Lib.hid g
      have g1 := g.q0; have g2 := g.q1; have g3 := g.r0; have g4 := g.r1
      have gQ := g.Q1
      by_cases c1 : 4294967296 ≤ q
      · have hl := g.less (.inl c1)
        clear g
        by_cases c2 : r + y1 ≤ 4294967295
        · go_wp2
          go_round
          case rel => exact ⟨q - 1, r + y1, rfl, rfl, G.out.step hl c2⟩
          case measure => simp only [intOf]; omega
        · go_wp2
          go_meet
          exact ⟨_, congrArg (Value.int .u64) (G.out.out hl (by omega)), rfl, rfl⟩
      · obtain ⟨yq0, yq1⟩ := g.yq (by omega)
        by_cases t : q * y0 ≤ 4294967296 * r + m1
        · have hd := Lib.hid (g.done t)
          clear g
          go_wp2
          go_meet
          exact ⟨_, congrArg (Value.int .u64) hd.out, rfl, rfl⟩
        · have hl := g.less (.inr (by omega))
          clear g
          by_cases c2 : r + y1 ≤ 4294967295
          · go_wp2
            go_round
            case rel => exact ⟨q - 1, r + y1, rfl, rfl, G.out.step hl c2⟩
            case measure => simp only [intOf]; omega
          · go_wp2
            go_meet
            exact ⟨_, congrArg (Value.int .u64) (G.out.out hl (by omega)), rfl, rfl⟩
  case rest =>
    obtain ⟨r1, rfl, rfl, rfl⟩ := hcut
    clear a1 a2 a3 a4 a5 a6 a7 a8 a9
    have b1 := k2.eq; have b2 := k2.q0; have b3 := k2.q1; have b4 := k2.ep; have b5 := k2.p0; have b6 := k2.p1; have b7 := k2.er; have b8 := k2.r0; have b9 := k2.r1
    have cA := k1.eA; have cA0 := k1.A0; have cA1 := k1.A1; have cB := k1.eB; have cB0 := k1.B0; have cB1 := k1.B1; have cC := k1.eC; have cC0 := k1.C0; have cC1 := k1.C1; have cR := k1.eR; have cR0 := k1.R0; have cR1 := k1.R1
    have cQ0 := k1.Q0; have cQ1 := k1.Q1
    go_upto_block 2 with fail
    go_cut [18, 16] from 102 to 120 (fun a b w' => ∃ r, a = .int .u64 Q0 ∧ b = .int .u64 r ∧ w = w')
    case first =>
      go_wp2_with fail
      go_loop [18, 16] (fun a b => ∃ q r : Int, a = .int .u64 q ∧ b = .int .u64 r ∧ D64.Guess R1 m0 Y y1 y0 Q0 q r) (fun a _ => (intOf a).toNat)
      case atStart => exact ⟨_, _, by rw [k2.eq], rfl, k2.g⟩
      case round =>
        clear b1 b4 b7
        obtain ⟨q, r, rfl, rfl, g⟩ := hrel
        have G := Lib.hid g
        have g1 := g.q0; have g2 := g.q1; have g3 := g.r0; have g4 := g.r1
        have gQ := g.Q1
        by_cases c1 : 4294967296 ≤ q
        · have hl := g.less (.inl c1)
          clear g
          by_cases c2 : r + y1 ≤ 4294967295
          · go_wp2
            go_round
            case rel => exact ⟨q - 1, r + y1, rfl, rfl, G.out.step hl c2⟩
            case measure => simp only [intOf]; omega
          · go_wp2
            go_meet
            exact ⟨_, congrArg (Value.int .u64) (G.out.out hl (by omega)), rfl, rfl⟩
        · obtain ⟨yq0, yq1⟩ := g.yq (by omega)
          by_cases t : q * y0 ≤ 4294967296 * r + m0
          · have hd := Lib.hid (g.done t)
            clear g
            go_wp2
            go_meet
            exact ⟨_, congrArg (Value.int .u64) hd.out, rfl, rfl⟩
          · have hl := g.less (.inr (by omega))
            clear g
            by_cases c2 : r + y1 ≤ 4294967295
            · go_wp2
              go_round
              case rel => exact ⟨q - 1, r + y1, rfl, rfl, G.out.step hl c2⟩
              case measure => simp only [intOf]; omega
            · go_wp2
              go_meet
              exact ⟨_, congrArg (Value.int .u64) (G.out.out hl (by omega)), rfl, rfl⟩
    case rest =>
      obtain ⟨r2, rfl, rfl, rfl⟩ := hcut
      clear b1 b2 b3 b4 b5 b6 b7 b8 b9 cA cA0 cA1 cB cB0 cB1 cC cC0 cC1 cR
      have dA := k2.eA; have dA0 := k2.A0; have dA1 := k2.A1; have dB := k2.eB; have dB0 := k2.B0; have dB1 := k2.B1; have dC := k2.eC; have dC0 := k2.C0; have dC1 := k2.C1; have dR := k2.eR; have dR0 := k2.R0; have dR1 := k2.R1
      have dQ0 := k2.Q0; have dQ1 := k2.Q1
      go_wp2
      go_ret2
      exact ⟨by rw [← F1.out, ← F2.out]; rfl, rfl⟩

set_option maxHeartbeats 400000 in
theorem div64_small (lo y : Int) (w : World) (h2 : 0 < y) (h3 : y ≤ 18446744073709551615) (h4 : 0 ≤ lo) (h5 : lo ≤ 18446744073709551615) :
    Calls Tryz.prog 149 #[.int .u64 0, .int .u64 lo, .int .u64 y] w fun e w' => e = .returned (.tuple #[.int .u64 (lo / y), .int .u64 (lo % y)]) ∧ ∃ n, w' = w.drewN n := by
  have e1 : (y == 0) = false := by rw [beq_eq_false_iff_ne]; omega
  have e0 : ¬ y = 0 := by omega
  have e3 : decide (y ≤ 0) = false := by rw [decide_eq_false_iff_not]; omega
  obtain ⟨q, hq⟩ : ∃ q, q = lo / y := ⟨_, rfl⟩
  obtain ⟨r, hr⟩ : ∃ r, r = lo % y := ⟨_, rfl⟩
  have q1 : IntKind.u64.wrap (lo.tdiv y) = q := by rw [hq]; exact IntWalk.u64_quo lo y ⟨h4, h5, by omega⟩
  have r1 : lo.tmod y = r := by rw [hr]; exact IntWalk.rem_in lo y h4
  rw [← hq, ← hr]
  clear hq hr
  go_enter Tryz.func149, Tryz.ntmps149
  go_wp2
  go_quiet (fail)
  go_wp2
  go_ret2
  exact ⟨rfl, _, rfl⟩

theorem div64_any (hi lo y : Int) (w : World) (h1 : 0 ≤ hi) (h2 : hi < y) (h3 : y ≤ 18446744073709551615) (h4 : 0 ≤ lo) (h5 : lo ≤ 18446744073709551615) :
    Calls Tryz.prog 149 #[.int .u64 hi, .int .u64 lo, .int .u64 y] w fun e w' => e = .returned (.tuple #[.int .u64 ((hi * 18446744073709551616 + lo) / y), .int .u64 ((hi * 18446744073709551616 + lo) % y)]) ∧ ∃ n, w' = w.drewN n := by
  by_cases h0 : hi = 0
  · subst h0
    rw [Int.zero_mul, Int.zero_add]
    exact div64_small lo y w h2 h3 h4 h5
  · exact (div64_big hi lo y w (by omega) h2 h3 h4 h5).mono fun _ _ ⟨a, b⟩ => ⟨a, 0, b.symm⟩
end Go.Proofs.YtobijdfnafnodaaGreatDoor.Ce
