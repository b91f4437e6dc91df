/- Contracts of Until and Line, the program's and the document's. -/
import Derived.Test.YtcjdhajnaonpcaaSrcTok
namespace Go.Proofs.Ytcjdhajnaonpcaa
open Go.ChangeShapes Go.WideShapes Go.RowKit
set_option linter.unusedVariables false

/-- one blank is passed over -/
def hop (xs : List Int) (k : Nat) : Nat := if k < xs.length ∧ xs.getD k 0 ≤ 32 then k + 1 else k
/-- the place behind e, if there is one -/
def behind (n e : Nat) : Nat := if e < n then e + 1 else n
theorem hop_le {xs : List Int} {k : Nat} (h : k ≤ xs.length) : hop xs k ≤ xs.length := by
  unfold hop
  split <;> omega
theorem bdN_behind {n e : Nat} (h : e ≤ n) : bdN n ((e : Int) + 1) = behind n e := by
  unfold behind
  by_cases h1 : e < n
  · rw [if_pos h1]
    exact bdN_in (n := n) (k := e + 1) (by omega)
  · rw [if_neg h1, bdN_high (by omega)]

theorem bounded_q (xs : List Int) (S : Nat) (a : Int) (w : World) (h : w.heap[S]? = some (cellOf xs)) (hn : xs.length ≤ 1000) (ha : -9223372036854775808 ≤ a ∧ a ≤ 9223372036854775807) :
    Calls Try.prog 21 #[.int .i64 a, .pointer (some ⟨S, 0, none⟩)] w fun e w' => e = .returned (.int .i64 (bdN xs.length a : Nat)) ∧ w' = w :=
  (bounded_any xs S a w h hn ha).mono fun _ _ ⟨h1, h2⟩ => ⟨h1, h2.symm⟩

set_option maxHeartbeats 1000000 in
theorem unt_any (xs : List Int) (a c : Int) (w : World) (hx : bytesOk xs) (hn : xs.length ≤ 1000) (ha : -9223372036854775808 ≤ a ∧ a ≤ 9223372036854775807) (hc : 0 ≤ c ∧ c ≤ 255) :
    Calls Try.prog 11 #[.string (strOfNums xs), .int .i64 a, .int .u8 c] w fun e w' =>
      e = .returned (.tuple #[.string (strOfNums (cutN xs (hop xs (bdN xs.length a)) (fd xs c (hop xs (bdN xs.length a))))), .int .i64 (behind xs.length (fd xs c (hop xs (bdN xs.length a))) : Nat)]) ∧ Below w.heap.size w w' := by
  have hs := str_size xs
  have hb0 := Lib.hid ((Below.refl w.heap.size w).alloc (Nat.le_refl _) (cellOf xs))
  have hB := Lib.hid (bounds_any xs w)
  have hC := Lib.hid (bounded_any xs w.heap.size a _ (heap_alloc_new w (cellOf xs)) hn ha)
  obtain ⟨k, hk⟩ : ∃ k, k = bdN xs.length a := ⟨_, rfl⟩
  have hkn : k ≤ xs.length := hk ▸ bdN_le _ _
  rw [← hk] at hC ⊢
  obtain ⟨k2, hk2⟩ : ∃ k2, k2 = hop xs k := ⟨_, rfl⟩
  have hk2n : k2 ≤ xs.length := hk2 ▸ hop_le hkn
  rw [← hk2]
  have hF := Lib.hid (fun W => find_any xs k2 c W hx hn hk2n hc)
  have hcut := run_cut xs (fd_ge xs c k2) (fd_le hk2n)
  have hen : fd xs c k2 ≤ xs.length := fd_le hk2n
  have hD := Lib.hid (fun m => bounded_q xs w.heap.size ((fd xs c k2 : Int) + 1) ((w.alloc (cellOf xs)).drewN m) (heap_alloc_new w (cellOf xs)) hn (by omega))
  have hwr : IntKind.i64.wrap ((fd xs c k2 : Int) + 1) = (fd xs c k2 : Int) + 1 := by rw [IntKind.wrap_i64]; omega
  rw [bdN_behind hen, ← hwr] at hD
  clear hwr
  have hK : Hid ((k < xs.length ∧ xs.getD k 0 ≤ 32 ∧ (k : Int) + 1 = k2) ∨ (k < xs.length ∧ ¬ xs.getD k 0 ≤ 32 ∧ k = k2) ∨ (k = xs.length ∧ k = k2)) := by
    apply Lib.hid
    unfold hop at hk2
    split at hk2
    · exact .inl ⟨by omega, by omega, by omega⟩
    · by_cases h : k < xs.length
      · exact .inr (.inl ⟨h, by omega, hk2.symm⟩)
      · exact .inr (.inr ⟨by omega, hk2.symm⟩)
  generalize w.alloc (cellOf xs) = V at *
  generalize fd xs c k2 = e at *
  generalize behind xs.length e = r at *
  obtain ⟨n, hn'⟩ : ∃ n, n = xs.length := ⟨_, rfl⟩
  rw [← hn'] at hs hn hkn hk2n hen hK
  have hnn := Lib.hid hn'
  have hx' := Lib.hid hx
  have hat := Lib.hid (fun k (hk : k < xs.length) => str_at hx hk)
  generalize strOfNums (cutN xs k2 e) = z at *
  generalize strOfNums xs = s at *
  have hxb := hx'.out.get k
  obtain ⟨x, hx0⟩ : ∃ x, x = xs.getD k 0 := ⟨_, rfl⟩
  have hat1 : k < n → ∀ W, (Instr.index 9 (.string s) (.int .i64 (k : Int))).run Try.prog W = .ok (.int .u8 x) W := fun h => by rw [hx0]; exact hat.out k (by have := hnn.out; omega)
  rw [← hx0] at hK hxb
  clear hn' hx hk hk2 hx0
  have hbl := Lib.hid (fun W => blank_any x W)
  rcases hK.out with ⟨g1, g2, g3⟩ | ⟨g1, g2, rfl⟩ | ⟨rfl, rfl⟩
  · have hd : decide (x ≤ 32) = true := by simpa using g2
    have hat2 := hat1 g1
    clear hat1 hK g2
    go_enter Try.func11, Try.ntmps11
    go_wp2_with (first | (go_at_call 18; (with_reducible refine hB.out.mono ?_); rintro e w' ⟨rfl, rfl⟩) | (go_at_call 21; (with_reducible refine hC.out.mono ?_); rintro e w' ⟨rfl, rfl⟩) | (go_at_call 19; (with_reducible refine (hbl.out _).mono ?_); rintro e w' ⟨rfl, rfl⟩) | (go_at_call 20; (with_reducible refine (hF.out _).mono ?_); rintro e w' ⟨rfl, rfl⟩))
    go_quiet (first | (go_at_call 21; with_reducible exact Calls.quiet_of_same (hD.out _)))
    go_wp2
    go_ret2
    exact ⟨rfl, below_drewN hb0.out _⟩
  · have hd : decide (x ≤ 32) = false := by simpa using g2
    have hat2 := hat1 g1
    clear hat1 hK g2
    go_enter Try.func11, Try.ntmps11
    go_wp2_with (first | (go_at_call 18; (with_reducible refine hB.out.mono ?_); rintro e w' ⟨rfl, rfl⟩) | (go_at_call 21; (with_reducible refine hC.out.mono ?_); rintro e w' ⟨rfl, rfl⟩) | (go_at_call 19; (with_reducible refine (hbl.out _).mono ?_); rintro e w' ⟨rfl, rfl⟩) | (go_at_call 20; (with_reducible refine (hF.out _).mono ?_); rintro e w' ⟨rfl, rfl⟩))
    go_quiet (first | (go_at_call 21; with_reducible exact Calls.quiet_of_same (hD.out _)))
    go_wp2
    go_ret2
    exact ⟨rfl, below_drewN hb0.out _⟩
  · clear hat1 hK
    go_enter Try.func11, Try.ntmps11
    go_wp2_with (first | (go_at_call 18; (with_reducible refine hB.out.mono ?_); rintro e w' ⟨rfl, rfl⟩) | (go_at_call 21; (with_reducible refine hC.out.mono ?_); rintro e w' ⟨rfl, rfl⟩) | (go_at_call 19; (with_reducible refine (hbl.out _).mono ?_); rintro e w' ⟨rfl, rfl⟩) | (go_at_call 20; (with_reducible refine (hF.out _).mono ?_); rintro e w' ⟨rfl, rfl⟩))
    go_quiet (first | (go_at_call 21; with_reducible exact Calls.quiet_of_same (hD.out _)))
    go_wp2
    go_ret2
    exact ⟨rfl, below_drewN hb0.out _⟩

theorem line_any (xs : List Int) (a : Int) (w : World) (hx : bytesOk xs) (hn : xs.length ≤ 1000) (ha : -9223372036854775808 ≤ a ∧ a ≤ 9223372036854775807) :
    Calls Try.prog 13 #[.string (strOfNums xs), .int .i64 a] w fun e w' =>
      e = .returned (.int .i64 (behind xs.length (fd xs 10 (bdN xs.length a)) : Nat)) ∧ Below w.heap.size w w' := by
  have hs := str_size xs
  have hb0 := Lib.hid ((Below.refl w.heap.size w).alloc (Nat.le_refl _) (cellOf xs))
  have hB := Lib.hid (fun W => bounds_any xs W)
  have hC := Lib.hid (bounded_any xs w.heap.size a _ (heap_alloc_new w (cellOf xs)) hn ha)
  obtain ⟨k, hk⟩ : ∃ k, k = bdN xs.length a := ⟨_, rfl⟩
  have hkn : k ≤ xs.length := hk ▸ bdN_le _ _
  rw [← hk] at hC ⊢
  have hF := Lib.hid (fun W => find_any xs k 10 W hx hn hkn (by decide))
  have hen : fd xs 10 k ≤ xs.length := fd_le hkn
  have hD := Lib.hid (bounded_any xs w.heap.size ((fd xs 10 k : Int) + 1) _ (heap_alloc_new w (cellOf xs)) hn (by omega))
  rw [bdN_behind hen] at hD
  generalize fd xs 10 k = e at *
  generalize behind xs.length e = r at *
  generalize xs.length = n at *
  generalize strOfNums xs = s at *
  clear hk
  go_enter Try.func13, Try.ntmps13
  go_wp2_with (first | (go_at_call 18; (with_reducible refine (hB.out _).mono ?_); rintro e w' ⟨rfl, rfl⟩) | (go_at_call 21; (with_reducible refine hC.out.mono ?_); rintro e w' ⟨rfl, rfl⟩) | (go_at_call 21; (with_reducible refine hD.out.mono ?_); rintro e w' ⟨rfl, rfl⟩) | (go_at_call 20; (with_reducible refine (hF.out _).mono ?_); rintro e w' ⟨rfl, rfl⟩))
  go_ret
  exact ⟨rfl, hb0.out⟩
end Go.Proofs.Ytcjdhajnaonpcaa
