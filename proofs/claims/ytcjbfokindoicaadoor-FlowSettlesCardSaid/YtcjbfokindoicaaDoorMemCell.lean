/- Contracts of memory.Cell and of the document's Cell. -/
import Derived.Test.YtcjbfokindoicaaDoorMemLeaf
namespace Go.Proofs.YtcjbfokindoicaaDoor.Me
set_option maxRecDepth 100000
open Go.ChangeShapes Go.WideShapes Go.ChangeAt Go.RowKit
set_option linter.unusedVariables false

/-- what Cell tells -/
def celI (xs : List Int) (p : Int) : Int := if tC xs.length p = 0 then cellI xs p.toNat else 0
theorem celI_bd (xs : List Int) (p : Int) : -9223372036854775808 ≤ celI xs p ∧ celI xs p ≤ 9223372036854775807 := by
  unfold celI
  split
  · exact cellI_bd _ _
  · omega
theorem w0 : wrap64 0 = 0 := by unfold wrap64; omega
theorem wbd (x : Int) : -9223372036854775808 ≤ wrap64 x ∧ wrap64 x ≤ 9223372036854775807 := by unfold wrap64; omega

theorem cell_any (a : Option Addr) (n c : Nat) (xs : List Int) (p : Int) (w : World) (h : Mem w a n c xs) (hp : -9223372036854775808 ≤ p ∧ p ≤ 9223372036854775807) :
    Calls Tryd.prog 14 #[.slice a n c, .int .i64 p] w fun e w' => e = .returned (.tuple #[.int .i64 (celI xs p), .int .i64 (tC n p)]) ∧ w = w' := by
  have hn := h.bd.1
  by_cases h1 : tC n p = 0
  · have t0 : (tC n p != 0) = false := by rw [h1]; rfl
    have e2 : Hid (celI xs p = cellI xs p.toNat ∧ tC n p = 0) := ⟨by unfold celI; rw [h.len, if_pos h1], h1⟩
    have hq : 0 ≤ p ∧ p + 8 ≤ n := by unfold tC at h1; split at h1 <;> omega
    obtain ⟨q, rfl⟩ := Int.eq_ofNat_of_zero_le hq.1
    have hq2 : q + 8 ≤ n := by omega
    obtain ⟨b, o, rfl, hc⟩ := h.cells (by omega)
    have H : Hid (∀ k, k < 8 → bits .or .i64 (wrap64 (sumN xs q k)) (wrap64 (xs.getD (q + k) 0 * 2 ^ (8 * k))) = wrap64 (sumN xs q (k + 1))) := fun k hk => or_next h.ok q k hk
    have HC : Hid (∀ i, i < n → w.cell? ⟨b, o + i, none⟩ = some (.int .u8 (xs.getD i 0)) ∧ 0 ≤ xs.getD i 0 ∧ xs.getD i 0 < 256) := fun i hi => ⟨hc i hi, h.ok.get i⟩
    clear h1 hq h hc
    go_enter Tryd.func14, Tryd.ntmps14
    go_wp2_with (go_at_call 31; (with_reducible refine (ofCell_any _ _ _ _ _ (by assumption) (by assumption)).mono ?_); rintro e w' ⟨rfl, rfl⟩)
    go_loop [7, 8, 15] (fun v _ i => ∃ k : Nat, k ≤ 8 ∧ i = .int .i64 k ∧ v = .int .i64 (wrap64 (sumN xs q k))) (fun _ _ i => 8 - (intOf i).toNat)
    case atStart => exact ⟨0, by omega, rfl, congrArg (Value.int .i64) w0.symm⟩
    case round =>
      obtain ⟨k, hk, rfl, hv⟩ := hrel
      by_cases hk8 : k < 8
      · have hs := H.out k hk8
        obtain ⟨hcell, y0, y1⟩ := HC.out (q + k) (by omega)
        have hz := wbd (xs.getD (q + k) 0 * 2 ^ (8 * k))
        obtain ⟨x, hx⟩ : ∃ x, x = wrap64 (sumN xs q k) := ⟨_, rfl⟩
        obtain ⟨x2, hx2⟩ : ∃ x, x = wrap64 (sumN xs q (k + 1)) := ⟨_, rfl⟩
        rw [← hx] at hv hs
        rw [← hx2] at hs
        subst hv
        have hxb := wbd (sumN xs q k)
        rw [← hx] at hxb
        generalize xs.getD (q + k) 0 = y at *
        have hx2' := Lib.hid hx2
        clear hx hx2
        go_wp2
        go_round
        case rel => exact ⟨k + 1, by omega, by go_num, congrArg (Value.int .i64) hx2'.out⟩
        case measure => simp only [intOf]; omega
      · obtain rfl : k = 8 := by omega
        have hv' : Hid (wrap64 (sumN xs q 8) = cellI xs q) := rfl
        subst hv
        generalize wrap64 (sumN xs q 8) = x at *
        go_wp2
        go_ret2
        exact ⟨retII (hv'.out.trans e2.out.1.symm) e2.out.2.symm, rfl⟩
  · have t0 : (tC n p != 0) = true := by simpa using h1
    have e2 : Hid (celI xs p = 0) := by show celI xs p = 0; unfold celI; rw [h.len, if_neg h1]
    clear h1
    go_enter Tryd.func14, Tryd.ntmps14
    go_wp2_with (go_at_call 31; (with_reducible refine (ofCell_any _ _ _ _ _ (by assumption) (by assumption)).mono ?_); rintro e w' ⟨rfl, rfl⟩)
    go_ret2
    exact ⟨retII e2.out.symm rfl, rfl⟩

theorem rcell_any (a : Option Addr) (n c : Nat) (xs : List Int) (p : Int) (w : World) (h : Mem w a n c xs) (hp : -9223372036854775808 ≤ p ∧ p ≤ 9223372036854775807) :
    Calls Tryd.prog 65 #[.slice a n c, .int .i64 p] w fun e w' => e = .returned (.tuple #[.int .i64 (celI xs p), .int .i64 (tC n p)]) ∧ w = w' := by
  have hn := h.bd.1
  by_cases hq : 0 ≤ p ∧ p + 8 ≤ n
  · by_cases h8 : p % 8 = 0
    · have h1 : tC n p = 0 := tC_ok hq h8
      have e2 : Hid (celI xs p = cellI xs p.toNat ∧ tC n p = 0) := ⟨by unfold celI; rw [h.len, if_pos h1], h1⟩
      obtain ⟨q, rfl⟩ := Int.eq_ofNat_of_zero_le hq.1
      have hq2 : q + 8 ≤ n := by omega
      obtain ⟨b, o, rfl, hc⟩ := h.cells (by omega)
      have H : Hid (∀ k, k < 8 → bits .or .i64 (wrap64 (wrap64 (upN xs q (k + 1) (7 - k)) * 256)) (xs.getD (q + k) 0) = wrap64 (upN xs q k (8 - k))) := fun k hk => by
        have := or_below h.ok q k (7 - k)
        rw [show 7 - k + 1 = 8 - k by omega, show (2 : Int) ^ 8 = 256 by decide] at this
        exact this
      have HC : Hid (∀ i, i < n → w.cell? ⟨b, o + i, none⟩ = some (.int .u8 (xs.getD i 0)) ∧ 0 ≤ xs.getD i 0 ∧ xs.getD i 0 < 256) := fun i hi => ⟨hc i hi, h.ok.get i⟩
      clear h1 hq h hc
      go_enter Tryd.func65, Tryd.ntmps65
      go_wp2
      go_loop [6, 7] (fun v i => ∃ k : Nat, k ≤ 8 ∧ i = .int .i64 ((k : Int) - 1) ∧ v = .int .i64 (wrap64 (upN xs q k (8 - k)))) (fun _ i => (intOf i + 1).toNat)
      case atStart => exact ⟨8, by omega, rfl, congrArg (Value.int .i64) w0.symm⟩
      case round =>
        obtain ⟨k, hk, rfl, hv⟩ := hrel
        rcases k with _ | j
        · have hv' : Hid (wrap64 (upN xs q 0 (8 - 0)) = cellI xs q) := congrArg wrap64 (sum_up xs q).symm
          subst hv
          generalize wrap64 (upN xs q 0 (8 - 0)) = x at *
          go_wp2
          go_ret2
          exact ⟨retII (hv'.out.trans e2.out.1.symm) e2.out.2.symm, rfl⟩
        · rw [show (((j+1:Nat):Int) - 1) = j from by omega]
          have hs := H.out j (by omega)
          obtain ⟨hcell, y0, y1⟩ := HC.out (q + j) (by omega)
          obtain ⟨x, hx⟩ : ∃ x, x = wrap64 (upN xs q (j + 1) (7 - j)) := ⟨_, rfl⟩
          obtain ⟨x2, hx2⟩ : ∃ x, x = wrap64 (upN xs q j (8 - j)) := ⟨_, rfl⟩
          rw [show 8 - (j + 1) = 7 - j by omega, ← hx] at hv
          rw [← hx, ← hx2] at hs
          subst hv
          have hxb := wbd (upN xs q (j + 1) (7 - j))
          rw [← hx] at hxb
          have hz := wbd (x * 256)
          generalize xs.getD (q + j) 0 = y at *
          have hx2' := Lib.hid hx2
          clear hx hx2
          go_wp2
          go_round
          case rel => exact ⟨j, by omega, by go_num, congrArg (Value.int .i64) hx2'.out⟩
          case measure => simp only [intOf]; omega
    · have h1 : Hid (tC n p = -23) := tC_odd hq h8
      have e2 : Hid (celI xs p = 0) := by show celI xs p = 0; unfold celI; rw [h.len, h1.out, if_neg (by decide)]
      obtain ⟨hq1, hq2⟩ := hq
      have h8' : ¬ p.tmod 8 = 0 := by rw [Int.tmod_eq_emod_of_nonneg hq1]; exact h8
      go_enter Tryd.func65, Tryd.ntmps65
      go_wp2
      go_ret2
      exact ⟨retII e2.out.symm h1.out.symm, rfl⟩
  · have h1 : Hid (tC n p = -9) := tC_no hq
    have e2 : Hid (celI xs p = 0) := by show celI xs p = 0; unfold celI; rw [h.len, h1.out, if_neg (by decide)]
    by_cases h0 : p < 0
    · clear hq
      go_enter Tryd.func65, Tryd.ntmps65
      go_wp2
      go_ret2
      exact ⟨retII e2.out.symm h1.out.symm, rfl⟩
    · have h3 : (n : Int) - 8 < p := by omega
      clear hq
      go_enter Tryd.func65, Tryd.ntmps65
      go_wp2
      go_ret2
      exact ⟨retII e2.out.symm h1.out.symm, rfl⟩
end Go.Proofs.YtcjbfokindoicaaDoor.Me
