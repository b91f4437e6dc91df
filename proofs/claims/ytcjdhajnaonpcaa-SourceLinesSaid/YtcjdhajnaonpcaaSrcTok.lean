/- Contracts of Token, the program's and the document's. -/
import Derived.Test.YtcjdhajnaonpcaaSrcLeaf
import Derived.WalkMore
namespace Go.Proofs.Ytcjdhajnaonpcaa
open Go.ChangeShapes Go.WideShapes Go.RowKit
set_option linter.unusedVariables false

/-- the next word from k on -/
def tokL (xs : List Int) (k : Nat) : List Int := cutN xs (bg xs k) (en xs (bg xs k))

theorem tok_any (xs : List Int) (a : Int) (w : World) (hx : bytesOk xs) (hn : xs.length ≤ 1000) (ha : -9223372036854775808 ≤ a ∧ a ≤ 9223372036854775807) :
    Calls Try.prog 9 #[.string (strOfNums xs), .int .i64 a] w fun e w' =>
      e = .returned (.tuple #[.string (strOfNums (tokL xs (bdN xs.length a))), .int .i64 (bg xs (bdN xs.length a) : Nat), .int .i64 (en xs (bg xs (bdN xs.length a)) : Nat)]) ∧ Below w.heap.size w w' := by
  have hs := str_size xs
  have hb0 := Lib.hid ((Below.refl w.heap.size w).alloc (Nat.le_refl _) (cellOf xs))
  have hB := Lib.hid (fun W => bounds_any xs W)
  have hC := Lib.hid (bounded_any xs w.heap.size a _ (heap_alloc_new w (cellOf xs)) hn ha)
  have hcut := Lib.hid (fun (a b : Nat) (hab : a ≤ b) (hb : b ≤ xs.length) => run_cut xs hab hb)
  obtain ⟨k, hk⟩ : ∃ k, k = bdN xs.length a := ⟨_, rfl⟩
  have hkn : k ≤ xs.length := hk ▸ bdN_le _ _
  rw [← hk] at hC ⊢
  obtain ⟨n, hn'⟩ : ∃ n, n = xs.length := ⟨_, rfl⟩
  rw [← hn'] at hs hn hkn
  have hnn := Lib.hid hn'
  have hx' := Lib.hid hx
  have hat := Lib.hid (fun k (hk : k < xs.length) => str_at hx hk)
  unfold tokL
  generalize strOfNums xs = s at *
  clear hn' hx hk
  go_enter Try.func9, Try.ntmps9
  go_wp2
  go_step3
  go_wp2_with (first | (go_at_call 18; (with_reducible refine (hB.out _).mono ?_); rintro e w' ⟨rfl, rfl⟩) | (go_at_call 21; (with_reducible refine hC.out.mono ?_); rintro e w' ⟨rfl, rfl⟩))
  go_step3
  go_wp2
  go_loop [8, 9] (fun b e => ∃ i j : Nat, i ≤ j ∧ j ≤ n ∧ b = .int .i64 i ∧ e = .int .i64 j ∧ ((i = j ∧ bg xs k = bg xs j) ∨ (i < j ∧ bg xs k = i ∧ en xs i = en xs j))) (fun _ e => n - (intOf e).toNat)
  case atStart => exact ⟨k, k, Nat.le_refl _, hkn, rfl, rfl, .inl ⟨rfl, rfl⟩⟩
  case round =>
    obtain ⟨i, j, hij, hjn, rfl, rfl, hE⟩ := hrel
    by_cases hj : j < n
    · have hjx : j < xs.length := by have := hnn.out; omega
      have hxb := hx'.out.get j
      have hat1 := hat.out j hjx
      by_cases hb : xs.getD j 0 ≤ 32
      · have hd : decide (xs.getD j 0 ≤ 32) = true := by simpa using hb
        rcases hE with ⟨rfl, h1⟩ | ⟨h0, h1, h2⟩
        · have he := Lib.hid (h1.trans (bg_on hjx hb))
          clear h1 hjx hb
          generalize xs.getD i 0 = x at *
          go_wp2_with (go_at_call 19; (with_reducible refine (blank_any _ _).mono ?_); rintro e w' ⟨rfl, rfl⟩)
          exact ⟨⟨i + 1, i + 1, by omega, by omega, by go_num, by go_num, .inl ⟨rfl, he.out⟩⟩, by simp only [intOf]; omega⟩
        · have he1 := Lib.hid h1
          have he2 := Lib.hid (h2.trans (en_no hjx hb))
          have hne : ((i : Int) == (j : Int)) = false := by simp; omega
          have hc := hcut.out _ _ hij (by omega : j ≤ xs.length)
          clear h1 h2 hjx hb
          generalize xs.getD j 0 = x at *
          go_wp2_with (go_at_call 19; (with_reducible refine (blank_any _ _).mono ?_); rintro e w' ⟨rfl, rfl⟩)
          try rw [Exit.noGoto_ret]
          go_ret3
          rw [he1.out, he2.out]
          exact ⟨rfl, hb0.out⟩
      · have hd : decide (xs.getD j 0 ≤ 32) = false := by simpa using hb
        have he : Hid ((i < j + 1 ∧ bg xs k = i ∧ en xs i = en xs (j + 1))) := by
          rcases hE with ⟨rfl, h1⟩ | ⟨h0, h1, h2⟩
          · exact Lib.hid ⟨by omega, h1.trans (bg_no hjx hb), en_on hjx hb⟩
          · exact Lib.hid ⟨by omega, h1, h2.trans (en_on hjx hb)⟩
        clear hE hjx hb
        generalize xs.getD j 0 = x at *
        go_wp2_with (go_at_call 19; (with_reducible refine (blank_any _ _).mono ?_); rintro e w' ⟨rfl, rfl⟩)
        exact ⟨⟨i, j + 1, by omega, by omega, rfl, by go_num, .inr he.out⟩, by simp only [intOf]; omega⟩
    · obtain rfl : j = n := by omega
      have he : Hid (bg xs k = i ∧ en xs i = j) := by
        have h := hnn.out
        rcases hE with ⟨rfl, h1⟩ | ⟨h0, h1, h2⟩
        · exact Lib.hid ⟨by rw [h1, h, bg_end], by rw [h, en_end]⟩
        · exact Lib.hid ⟨h1, by rw [h2, h, en_end]⟩
      have hc := hcut.out _ _ hij (by have := hnn.out; omega : j ≤ xs.length)
      clear hE
      go_wp2
      try rw [Exit.noGoto_ret]
      go_ret3
      rw [he.out.1, he.out.2]
      exact ⟨rfl, hb0.out⟩

theorem rtok_any (xs : List Int) (a : Int) (w : World) (hx : bytesOk xs) (hn : xs.length ≤ 1000) (ha : -9223372036854775808 ≤ a ∧ a ≤ 9223372036854775807) :
    Calls Try.prog 10 #[.string (strOfNums xs), .int .i64 a] w fun e w' =>
      e = .returned (.tuple #[.string (strOfNums (tokL xs (bdN xs.length a))), .int .i64 (bg xs (bdN xs.length a) : Nat), .int .i64 (en xs (bg xs (bdN xs.length a)) : Nat)]) ∧ w = w' := by
  have hs := str_size xs
  have hC := Lib.hid (rbound_any xs a w hn ha)
  have hcut := Lib.hid (fun (a b : Nat) (hab : a ≤ b) (hb : b ≤ xs.length) => run_cut xs hab hb)
  obtain ⟨k, hk⟩ : ∃ k, k = bdN xs.length a := ⟨_, rfl⟩
  have hkn : k ≤ xs.length := hk ▸ bdN_le _ _
  rw [← hk] at hC ⊢
  obtain ⟨n, hn'⟩ : ∃ n, n = xs.length := ⟨_, rfl⟩
  rw [← hn'] at hs hn hkn
  have hnn := Lib.hid hn'
  have hx' := Lib.hid hx
  have hat := Lib.hid (fun k (hk : k < xs.length) => str_at hx hk)
  unfold tokL
  generalize strOfNums xs = s at *
  clear hn' hx hk
  go_enter Try.func10, Try.ntmps10
  go_wp2_with (go_at_call 17; (with_reducible refine hC.out.mono ?_); rintro e w' ⟨rfl, rfl⟩)
  go_loop [7] (fun b => ∃ i : Nat, i ≤ n ∧ b = .int .i64 i ∧ bg xs k = bg xs i) (fun b => n - (intOf b).toNat)
  case atStart => exact ⟨k, hkn, rfl, rfl⟩
  case round =>
    obtain ⟨i, hi, rfl, hE⟩ := hrel
    replace hE := Lib.hid hE
    by_cases hin : i < n
    · have hix : i < xs.length := by have := hnn.out; omega
      have hxb := hx'.out.get i
      have hat1 := hat.out i hix
      by_cases hb : xs.getD i 0 ≤ 32
      · have he := Lib.hid (hE.out.trans (bg_on hix hb))
        clear hix hE
        generalize xs.getD i 0 = x at *
        go_wp2
        exact ⟨⟨i + 1, by omega, by go_num, he.out⟩, by simp only [intOf]; omega⟩
      · have he0 := Lib.hid (hE.out.trans (bg_no hix hb))
        clear hix hE
        generalize xs.getD i 0 = x at *
        go_wp2
        go_loop [8] (fun e => ∃ j : Nat, i ≤ j ∧ j ≤ n ∧ e = .int .i64 j ∧ en xs i = en xs j) (fun e => n - (intOf e).toNat)
        case atStart => exact ⟨i, Nat.le_refl _, hi, rfl, rfl⟩
        case round =>
          obtain ⟨j, hij, hj, rfl, hE⟩ := hrel
          replace hE := Lib.hid hE
          clear hat1 hxb hb
          by_cases hjn : j < n
          · have hjx : j < xs.length := by have := hnn.out; omega
            have hxb := hx'.out.get j
            have hat1 := hat.out j hjx
            by_cases hb : xs.getD j 0 ≤ 32
            · have he := Lib.hid (hE.out.trans (en_no hjx hb))
              have hc := hcut.out _ _ hij (by omega : j ≤ xs.length)
              clear hjx hE
              generalize xs.getD j 0 = y at *
              go_wp2
              go_ret3
              rw [he0.out, he.out]
              exact ⟨rfl, rfl⟩
            · have he := Lib.hid (hE.out.trans (en_on hjx hb))
              clear hjx hE
              generalize xs.getD j 0 = y at *
              go_wp2
              exact ⟨⟨j + 1, by omega, by omega, by go_num, he.out⟩, by simp only [intOf]; omega⟩
          · obtain rfl : j = n := by omega
            have he : Hid (en xs i = j) := Lib.hid (by rw [hE.out, hnn.out, en_end])
            have hc := hcut.out _ _ hij (by have := hnn.out; omega : j ≤ xs.length)
            clear hE
            go_wp2
            go_ret3
            rw [he0.out, he.out]
            exact ⟨rfl, rfl⟩
    · obtain rfl : i = n := by omega
      have he : Hid (bg xs k = i) := Lib.hid (by rw [hE.out, hnn.out, bg_end])
      have he2 : Hid (en xs i = i) := Lib.hid (by rw [hnn.out, en_end])
      have hc := hcut.out _ _ (Nat.le_refl i) (by have := hnn.out; omega : i ≤ xs.length)
      clear hE
      go_wp2
      go_loop [8] (fun e => e = .int .i64 i) (fun e => 0)
      case atStart => exact rfl
      case round =>
        obtain rfl := hrel
        go_wp2
        go_ret3
        rw [he.out, he2.out]
        exact ⟨rfl, rfl⟩
end Go.Proofs.Ytcjdhajnaonpcaa
