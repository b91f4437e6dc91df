/- Plain facts for the laws of layer 3: what was set is there, and all else as before; a cell is its bytes. -/
import Derived.Test.YtfaajbcfebficaaMemAwake
namespace Go.Proofs.Ytfaajbcfebficaa
open Go.RowKit

theorem back_facts {xs : List Int} (hx : byteOk xs) {p v : Int} (h : tC xs.length p = 0) (hv : -9223372036854775808 ≤ v ∧ v ≤ 9223372036854775807) :
    tC (setC xs p v).length p = 0 ∧ celI (setC xs p v) p = v ∧ setC (setC xs p v) p (celI xs p) = xs ∧ (setC xs p v).length = xs.length := by
  obtain ⟨q1, q2, _⟩ := tC_in h
  obtain ⟨q, rfl⟩ := Int.eq_ofNat_of_zero_le q1
  have e1 : setC xs (q : Int) v = putN xs q v 8 := by unfold setC; rw [if_pos h]; rfl
  have e2 : celI xs (q : Int) = cellI xs q := by unfold celI; rw [if_pos h]; rfl
  rw [e1, putN_len]
  refine ⟨h, ?_, ?_, rfl⟩
  · unfold celI
    rw [putN_len, if_pos h]
    exact cell_put xs q v (by omega) hv
  · unfold setC
    rw [putN_len, if_pos h, e2]
    exact put_back hx q v

theorem no_facts {xs : List Int} {p v : Int} (h : ¬ tC xs.length p = 0) : celI xs p = 0 ∧ setC xs p v = [] := by
  unfold celI setC
  rw [if_neg h, if_neg h]
  exact ⟨rfl, rfl⟩

theorem bytI_no {xs : List Int} {r : Int} (h : ¬ tB xs.length r 1 = 0) : bytI xs r = 0 := by
  unfold bytI
  rw [if_neg]
  intro hh
  exact h (tB_ok ⟨hh.1, by decide, by omega⟩)

theorem bytI_in {xs : List Int} {r : Nat} (h : r < xs.length) : bytI xs (r : Int) = xs.getD r 0 := by
  unfold bytI
  rw [if_pos (by omega)]
  rfl

theorem apart_cell {xs : List Int} {p r : Int} (hr : tB xs.length r 1 = 0) :
    ((tC xs.length p == 0) = false ∧ (tC xs.length p != 0) = true) ∨
    (tC xs.length p = 0 ∧ p ≤ r ∧ r - p < 8 ∧ 0 ≤ p ∧ (bytI (setC xs p (-1)) r = 255)) ∨
    (tC xs.length p = 0 ∧ r < p ∧ (bytI (setC xs p (-1)) r = bytI xs r)) ∨
    (tC xs.length p = 0 ∧ p ≤ r ∧ 8 ≤ r - p ∧ 0 ≤ p ∧ (bytI (setC xs p (-1)) r = bytI xs r)) := by
  by_cases h : tC xs.length p = 0
  · right
    obtain ⟨q1, q2, _⟩ := tC_in h
    obtain ⟨r1, _, r2⟩ := tB_in hr
    obtain ⟨q, rfl⟩ := Int.eq_ofNat_of_zero_le q1
    obtain ⟨k, rfl⟩ := Int.eq_ofNat_of_zero_le r1
    have e1 : setC xs (q : Int) (-1) = putN xs q (-1) 8 := by unfold setC; rw [if_pos h]; rfl
    have hk : k < xs.length := by omega
    have e2 : bytI (putN xs q (-1) 8) (k : Int) = if q ≤ k ∧ k < q + 8 then 255 else bytI xs (k : Int) := by
      rw [bytI_in (by rw [putN_len]; exact hk), bytI_in hk, putN_get xs q (-1) k hk 8, byteA_minus]
    rw [e1]
    by_cases c1 : q ≤ k
    · by_cases c2 : k < q + 8
      · exact .inl ⟨h, by omega, by omega, by omega, by rw [e2, if_pos ⟨c1, c2⟩]⟩
      · exact .inr (.inr ⟨h, by omega, by omega, by omega, by rw [e2, if_neg (by omega)]⟩)
    · exact .inr (.inl ⟨h, by omega, by rw [e2, if_neg (by omega)]⟩)
  · left
    exact ⟨by simpa using h, by simpa using h⟩

theorem apart_byte {xs : List Int} {p r : Int} (hr : tB xs.length r 1 = 0) :
    ((tB xs.length p 1 == 0) = false ∧ (tB xs.length p 1 != 0) = true) ∨
    (tB xs.length p 1 = 0 ∧ r = p ∧ (bytI (setB xs p 255) r = 255)) ∨
    (tB xs.length p 1 = 0 ∧ (r == p) = false ∧ (bytI (setB xs p 255) r = bytI xs r)) := by
  by_cases h : tB xs.length p 1 = 0
  · right
    obtain ⟨q1, _, q2⟩ := tB_in h
    obtain ⟨r1, _, r2⟩ := tB_in hr
    obtain ⟨q, rfl⟩ := Int.eq_ofNat_of_zero_le q1
    obtain ⟨k, rfl⟩ := Int.eq_ofNat_of_zero_le r1
    have e1 : setB xs (q : Int) 255 = putN xs q 255 1 := by unfold setB; rw [if_pos h]; rfl
    have hk : k < xs.length := by omega
    have e2 : bytI (putN xs q 255 1) (k : Int) = if q ≤ k ∧ k < q + 1 then byteA 255 (k - q) else bytI xs (k : Int) := by
      rw [bytI_in (by rw [putN_len]; exact hk), bytI_in hk, putN_get xs q 255 k hk 1]
    rw [e1]
    by_cases c : k = q
    · subst c
      exact .inl ⟨h, rfl, by rw [e2, if_pos (by omega), Nat.sub_self]; decide⟩
    · exact .inr ⟨h, by simp; omega, by rw [e2, if_neg (by omega)]⟩
  · left
    exact ⟨by simpa using h, by simpa using h⟩

theorem cut_facts {xs : List Int} {q : Nat} (h : q + 8 ≤ xs.length) :
    tB xs.length (q : Int) 8 = 0 ∧ (cutB xs (q : Int) 8).length = 8 ∧ ∀ j, j < 8 → (cutB xs (q : Int) 8).getD j 0 = xs.getD (q + j) 0 ∧ bytI xs ((q : Int) + (j : Int)) = xs.getD (q + j) 0 ∧ tB xs.length ((q : Int) + (j : Int)) 1 = 0 := by
  have h0 : tB xs.length (q : Int) 8 = 0 := tB_ok (by omega)
  have e : cutB xs (q : Int) 8 = (xs.drop q).take 8 := by unfold cutB; rw [if_pos h0]; rfl
  rw [e]
  refine ⟨h0, by simp; omega, fun j hj => ⟨?_, ?_, tB_ok (by omega)⟩⟩
  · simp [List.getD, hj]
  · exact bytI_in (r := q + j) (by omega)
end Go.Proofs.Ytfaajbcfebficaa
