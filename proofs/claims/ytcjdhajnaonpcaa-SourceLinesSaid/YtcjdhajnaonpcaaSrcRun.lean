/- Contracts of the document's Until and Line. -/
import Derived.Test.YtcjdhajnaonpcaaSrcUnt
namespace Go.Proofs.Ytcjdhajnaonpcaa
open Go.ChangeShapes Go.WideShapes Go.RowKit
set_option linter.unusedVariables false

theorem behind_in {n e : Nat} (h : e < n) : (behind n e : Int) = (e : Int) + 1 := by
  rw [behind, if_pos h]
  omega
theorem behind_end (n : Nat) : behind n n = n := by rw [behind, if_neg (by omega)]

set_option maxHeartbeats 1000000 in
theorem runt_any (xs : List Int) (a c : Int) (w : World) (hx : bytesOk xs) (hn : xs.length ≤ 1000) (ha : -9223372036854775808 ≤ a ∧ a ≤ 9223372036854775807) (hc : 0 ≤ c ∧ c ≤ 255) :
    Calls Try.prog 12 #[.string (strOfNums xs), .int .i64 a, .int .u8 c] w fun e w' =>
      e = .returned (.tuple #[.string (strOfNums (cutN xs (hop xs (bdN xs.length a)) (fd xs c (hop xs (bdN xs.length a))))), .int .i64 (behind xs.length (fd xs c (hop xs (bdN xs.length a))) : Nat)]) ∧ w = w' := by
  have hs := str_size xs
  have hC := Lib.hid (rbound_any xs a w hn ha)
  obtain ⟨k, hk⟩ : ∃ k, k = bdN xs.length a := ⟨_, rfl⟩
  have hkn : k ≤ xs.length := hk ▸ bdN_le _ _
  rw [← hk] at hC ⊢
  obtain ⟨k2, hk2⟩ : ∃ k2, k2 = hop xs k := ⟨_, rfl⟩
  have hk2n : k2 ≤ xs.length := hk2 ▸ hop_le hkn
  rw [← hk2]
  have hcut := Lib.hid (fun (b : Nat) (hab : k2 ≤ b) (hb : b ≤ xs.length) => run_cut xs hab hb)
  have hcutE := run_cutFrom xs hk2n
  have hK : Hid ((k < xs.length ∧ xs.getD k 0 ≤ 32 ∧ (k : Int) + 1 = k2) ∨ (k < xs.length ∧ ¬ xs.getD k 0 ≤ 32 ∧ k = k2) ∨ (k = xs.length ∧ k = k2)) := by
    apply Lib.hid
    unfold hop at hk2
    split at hk2
    · exact .inl ⟨by omega, by omega, by omega⟩
    · by_cases h : k < xs.length
      · exact .inr (.inl ⟨h, by omega, hk2.symm⟩)
      · exact .inr (.inr ⟨by omega, hk2.symm⟩)
  obtain ⟨n, hn'⟩ : ∃ n, n = xs.length := ⟨_, rfl⟩
  rw [← hn'] at hs hn hkn hk2n hK hcutE ⊢
  have hnn := Lib.hid hn'
  have hx' := Lib.hid hx
  have hat := Lib.hid (fun k (hk : k < xs.length) => str_at hx hk)
  generalize strOfNums xs = s at *
  have hxb := hx'.out.get k
  obtain ⟨x, hx0⟩ : ∃ x, x = xs.getD k 0 := ⟨_, rfl⟩
  have hat1 : k < n → ∀ W, (Instr.index 9 (.string s) (.int .i64 (k : Int))).run Try.prog W = .ok (.int .u8 x) W := fun h => by rw [hx0]; exact hat.out k (by have := hnn.out; omega)
  rw [← hx0] at hK hxb
  clear hn' hx hk hk2 hx0
  rcases hK.out with ⟨g1, g2, g3⟩ | ⟨g1, g2, rfl⟩ | ⟨rfl, rfl⟩
  · have hat2 := hat1 g1
    clear hat1 hK
    go_enter Try.func12, Try.ntmps12
    go_wp2_with (go_at_call 17; (with_reducible refine hC.out.mono ?_); rintro e w' ⟨rfl, rfl⟩)
    go_loop [9] (fun i => ∃ j : Nat, k2 ≤ j ∧ j ≤ n ∧ i = .int .i64 j ∧ fd xs c k2 = fd xs c j) (fun i => n - (intOf i).toNat)
    case atStart => exact ⟨k2, Nat.le_refl _, hk2n, rfl, rfl⟩
    case round =>
      obtain ⟨j, hkj, hj, rfl, he⟩ := hrel
      replace he := Lib.hid he
      clear hat2 g2 g3 hxb
      by_cases hjn : j < n
      · have hjx : j < xs.length := by have := hnn.out; omega
        have hyb := hx'.out.get j
        have hat3 := hat.out j hjx
        by_cases hb : xs.getD j 0 = c
        · have he2 := Lib.hid (he.out.trans (fd_no hjx hb))
          have hne : (xs.getD j 0 == c) = true := by simpa using hb
          have hr := Lib.hid (behind_in hjn)
          have hcu := hcut.out j hkj (by omega)
          clear hjx he hb hcutE
          generalize xs.getD j 0 = y at *
          go_wp2
          go_ret2
          rw [he2.out, hr.out]
          exact ⟨rfl, rfl⟩
        · have he2 := Lib.hid (he.out.trans (fd_on hjx hb))
          have hne : (xs.getD j 0 == c) = false := by simpa using hb
          clear hjx he hb hcutE
          generalize xs.getD j 0 = y at *
          go_wp2
          exact ⟨⟨j + 1, by omega, by omega, by go_num, he2.out⟩, by simp only [intOf]; omega⟩
      · obtain rfl : j = n := by omega
        have he2 : Hid (fd xs c k2 = j) := Lib.hid (by rw [he.out, hnn.out, fd_end])
        have hr := Lib.hid (behind_end j)
        clear he
        go_wp2
        go_ret2
        rw [he2.out, hr.out]
        exact ⟨rfl, rfl⟩
  · have hat2 := hat1 g1
    clear hat1 hK
    go_enter Try.func12, Try.ntmps12
    go_wp2_with (go_at_call 17; (with_reducible refine hC.out.mono ?_); rintro e w' ⟨rfl, rfl⟩)
    go_loop [9] (fun i => ∃ j : Nat, k ≤ j ∧ j ≤ n ∧ i = .int .i64 j ∧ fd xs c k = fd xs c j) (fun i => n - (intOf i).toNat)
    case atStart => exact ⟨k, Nat.le_refl _, hk2n, rfl, rfl⟩
    case round =>
      obtain ⟨j, hkj, hj, rfl, he⟩ := hrel
      replace he := Lib.hid he
      clear hat2 g2 hxb
      by_cases hjn : j < n
      · have hjx : j < xs.length := by have := hnn.out; omega
        have hyb := hx'.out.get j
        have hat3 := hat.out j hjx
        by_cases hb : xs.getD j 0 = c
        · have he2 := Lib.hid (he.out.trans (fd_no hjx hb))
          have hne : (xs.getD j 0 == c) = true := by simpa using hb
          have hr := Lib.hid (behind_in hjn)
          have hcu := hcut.out j hkj (by omega)
          clear hjx he hb hcutE
          generalize xs.getD j 0 = y at *
          go_wp2
          go_ret2
          rw [he2.out, hr.out]
          exact ⟨rfl, rfl⟩
        · have he2 := Lib.hid (he.out.trans (fd_on hjx hb))
          have hne : (xs.getD j 0 == c) = false := by simpa using hb
          clear hjx he hb hcutE
          generalize xs.getD j 0 = y at *
          go_wp2
          exact ⟨⟨j + 1, by omega, by omega, by go_num, he2.out⟩, by simp only [intOf]; omega⟩
      · obtain rfl : j = n := by omega
        have he2 : Hid (fd xs c k = j) := Lib.hid (by rw [he.out, hnn.out, fd_end])
        have hr := Lib.hid (behind_end j)
        clear he
        go_wp2
        go_ret2
        rw [he2.out, hr.out]
        exact ⟨rfl, rfl⟩
  · clear hat1 hK
    go_enter Try.func12, Try.ntmps12
    go_wp2_with (go_at_call 17; (with_reducible refine hC.out.mono ?_); rintro e w' ⟨rfl, rfl⟩)
    go_loop [9] (fun i => i = .int .i64 k) (fun i => 0)
    case atStart => exact rfl
    case round =>
      obtain rfl := hrel
      have he2 : Hid (fd xs c k = k) := Lib.hid (by rw [hnn.out, fd_end])
      have hr := Lib.hid (behind_end k)
      go_wp2
      go_ret2
      rw [he2.out, hr.out]
      exact ⟨rfl, rfl⟩

theorem rline_any (xs : List Int) (a : Int) (w : World) (hx : bytesOk xs) (hn : xs.length ≤ 1000) (ha : -9223372036854775808 ≤ a ∧ a ≤ 9223372036854775807) :
    Calls Try.prog 14 #[.string (strOfNums xs), .int .i64 a] w fun e w' =>
      e = .returned (.int .i64 (behind xs.length (fd xs 10 (bdN xs.length a)) : Nat)) ∧ w = w' := by
  have hs := str_size xs
  have hC := Lib.hid (rbound_any xs a w hn ha)
  obtain ⟨k, hk⟩ : ∃ k, k = bdN xs.length a := ⟨_, rfl⟩
  have hkn : k ≤ xs.length := hk ▸ bdN_le _ _
  rw [← hk] at hC ⊢
  obtain ⟨n, hn'⟩ : ∃ n, n = xs.length := ⟨_, rfl⟩
  rw [← hn'] at hs hn hkn ⊢
  have hnn := Lib.hid hn'
  have hx' := Lib.hid hx
  have hat := Lib.hid (fun k (hk : k < xs.length) => str_at hx hk)
  generalize strOfNums xs = s at *
  clear hn' hx hk
  go_enter Try.func14, Try.ntmps14
  go_wp2_with (go_at_call 17; (with_reducible refine hC.out.mono ?_); rintro e w' ⟨rfl, rfl⟩)
  go_loop [5] (fun i => ∃ j : Nat, j ≤ n ∧ i = .int .i64 j ∧ fd xs 10 k = fd xs 10 j) (fun i => n - (intOf i).toNat)
  case atStart => exact ⟨k, hkn, rfl, rfl⟩
  case round =>
    obtain ⟨j, hj, rfl, he⟩ := hrel
    replace he := Lib.hid he
    by_cases hjn : j < n
    · have hjx : j < xs.length := by have := hnn.out; omega
      have hyb := hx'.out.get j
      have hat3 := hat.out j hjx
      by_cases hb : xs.getD j 0 = 10
      · have he2 := Lib.hid (he.out.trans (fd_no hjx hb))
        have hne : (xs.getD j 0 == 10) = true := by simpa using hb
        have hr := Lib.hid (behind_in hjn)
        clear hjx he hb
        generalize xs.getD j 0 = y at *
        go_wp2
        go_ret
        rw [he2.out, hr.out]
        exact ⟨rfl, rfl⟩
      · have he2 := Lib.hid (he.out.trans (fd_on hjx hb))
        have hne : (xs.getD j 0 == 10) = false := by simpa using hb
        clear hjx he hb
        generalize xs.getD j 0 = y at *
        go_wp2
        exact ⟨⟨j + 1, by omega, by go_num, he2.out⟩, by simp only [intOf]; omega⟩
    · obtain rfl : j = n := by omega
      have he2 : Hid (fd xs 10 k = j) := Lib.hid (by rw [he.out, hnn.out, fd_end])
      have hr := Lib.hid (behind_end j)
      clear he
      go_wp2
      go_ret
      rw [he2.out, hr.out]
      exact ⟨rfl, rfl⟩
end Go.Proofs.Ytcjdhajnaonpcaa
