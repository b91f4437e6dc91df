/- Contracts of isBlank, Bound, bounds and its closure, find. -/
import Derived.Test.YtcjdhajnaonpcaaSrcMath
namespace Go.Proofs.Ytcjdhajnaonpcaa
open Go.ChangeShapes Go.WideShapes Go.RowKit
set_option linter.unusedVariables false

theorem blank_any (c : Int) (w : World) : Calls Try.prog 19 #[.int .u8 c] w fun e w' => e = .returned (.bool (decide (c ≤ 32))) ∧ w = w' := by
  go_enter Try.func19, Try.ntmps19
  go_wp2
  go_ret
  exact ⟨rfl, rfl⟩

theorem rbound_any (xs : List Int) (a : Int) (w : World) (hn : xs.length ≤ 1000) (ha : -9223372036854775808 ≤ a ∧ a ≤ 9223372036854775807) :
    Calls Try.prog 17 #[.string (strOfNums xs), .int .i64 a] w fun e w' => e = .returned (.int .i64 (bdN xs.length a : Nat)) ∧ w = w' := by
  have hs := str_size xs
  generalize xs.length = n at *
  generalize strOfNums xs = s at *
  by_cases h1 : a < 0
  · have e := Lib.hid (bdN_low (n := n) h1)
    go_enter Try.func17, Try.ntmps17
    go_wp2
    go_ret
    rw [e.out]
    exact ⟨rfl, rfl⟩
  · by_cases h2 : (n : Int) < a
    · have e := Lib.hid (bdN_high h2)
      go_enter Try.func17, Try.ntmps17
      go_wp2
      go_ret
      rw [e.out]
      exact ⟨rfl, rfl⟩
    · have e := Lib.hid (bdN_mid (n := n) (a := a) (by omega) (by omega))
      go_enter Try.func17, Try.ntmps17
      go_wp2
      go_ret
      rw [e.out]
      exact ⟨rfl, rfl⟩

/-- the closure that bounds a place, and the cell that it captures -/
def cellOf (xs : List Int) : Obj := .cells #[.string (strOfNums xs)] 9 (0, 0)
def bounder (S : Nat) : Value := .func (.func 21) #[] #[.pointer (some ⟨S, 0, none⟩)]

theorem bounds_any (xs : List Int) (w : World) :
    Calls Try.prog 18 #[.string (strOfNums xs)] w fun e w' => e = .returned (.func (.func 21) #[] #[.pointer (some ⟨w.heap.size, 0, none⟩)]) ∧ w.alloc (cellOf xs) = w' := by
  have hmf := mkf
  go_enter Try.func18, Try.ntmps18
  go_wp2
  go_ret
  exact ⟨rfl, rfl⟩

theorem bounded_any (xs : List Int) (S : Nat) (a : Int) (w : World) (h : w.heap[S]? = some (cellOf xs)) (hn : xs.length ≤ 1000) (ha : -9223372036854775808 ≤ a ∧ a ≤ 9223372036854775807) :
    Calls Try.prog 21 #[.int .i64 a, .pointer (some ⟨S, 0, none⟩)] w fun e w' => e = .returned (.int .i64 (bdN xs.length a : Nat)) ∧ w = w' := by
  have hs := str_size xs
  unfold cellOf at h
  have hcell := cell_of_one h
  clear h
  generalize xs.length = n at *
  generalize strOfNums xs = s at *
  by_cases h1 : a < 0
  · have e := Lib.hid (bdN_low (n := n) h1)
    have h2 : ¬ (n : Int) < 0 := by omega
    go_enter Try.func21, Try.ntmps21
    go_wp2
    go_ret
    rw [e.out]
    exact ⟨rfl, rfl⟩
  · by_cases h2 : (n : Int) < a
    · have e := Lib.hid (bdN_high h2)
      have h3 : ¬ 0 > a := by omega
      go_enter Try.func21, Try.ntmps21
      go_wp2
      go_ret
      rw [e.out]
      exact ⟨rfl, rfl⟩
    · have e := Lib.hid (bdN_mid (n := n) (a := a) (by omega) (by omega))
      have h3 : ¬ 0 > a := by omega
      go_enter Try.func21, Try.ntmps21
      go_wp2
      go_ret
      rw [e.out]
      exact ⟨rfl, rfl⟩

theorem find_any (xs : List Int) (k : Nat) (c : Int) (w : World) (hx : bytesOk xs) (hn : xs.length ≤ 1000) (hk : k ≤ xs.length) (hc : 0 ≤ c ∧ c ≤ 255) :
    Calls Try.prog 20 #[.string (strOfNums xs), .int .i64 (k : Nat), .int .u8 c] w fun e w' => e = .returned (.int .i64 (fd xs c k : Nat)) ∧ w = w' := by
  have hs := str_size xs
  obtain ⟨n, hn'⟩ : ∃ n, n = xs.length := ⟨_, rfl⟩
  rw [← hn'] at hs hn hk
  have hnn := Lib.hid hn'
  have hx' := Lib.hid hx
  have hat := Lib.hid (fun k (hk : k < xs.length) => str_at hx hk)
  generalize strOfNums xs = s at *
  clear hn' hx
  go_enter Try.func20, Try.ntmps20
  go_wp2
  go_loop [1] (fun i => ∃ j : Nat, j ≤ n ∧ i = .int .i64 j ∧ fd xs c k = fd xs c j) (fun i => n - (intOf i).toNat)
  case atStart => exact ⟨k, hk, rfl, rfl⟩
  case round =>
    obtain ⟨j, hj, rfl, he⟩ := hrel
    replace he := Lib.hid he
    by_cases hjn : j < n
    · have hjx : j < xs.length := by have := hnn.out; omega
      have hxb := hx'.out.get j
      have hat1 := hat.out j hjx
      by_cases hb : xs.getD j 0 = c
      · have he2 := Lib.hid (he.out.trans (fd_no hjx hb))
        have hne : (xs.getD j 0 != c) = false := by simpa using hb
        clear hjx he hb
        generalize xs.getD j 0 = x at *
        go_wp2
        go_ret
        rw [he2.out]
        exact ⟨rfl, rfl⟩
      · have he2 := Lib.hid (he.out.trans (fd_on hjx hb))
        have hne : (xs.getD j 0 != c) = true := by simpa using hb
        clear hjx he hb
        generalize xs.getD j 0 = x at *
        go_wp2
        exact ⟨⟨j + 1, by omega, by go_num, he2.out⟩, by simp only [intOf]; omega⟩
    · obtain rfl : j = n := by omega
      have he2 : Hid (fd xs c k = j) := Lib.hid (by rw [he.out, hnn.out, fd_end])
      clear he
      go_wp2
      go_ret
      rw [he2.out]
      exact ⟨rfl, rfl⟩
end Go.Proofs.Ytcjdhajnaonpcaa
