/- The statements' own awake: true; the contracts told from a law's first world on. -/
import Derived.Test.YtjlnfconolndoaaNumPut
import Derived.Test.YtjlnfconolndoaaNumRput
import Derived.Test.YtjlnfconolndoaaNumTake
import Derived.Test.YtjlnfconolndoaaNumRtake
namespace Go.Proofs.Ytjlnfconolndoaa
open Go.ChangeShapes Go.WideShapes Go.ChangeAt Go.RowKit
set_option linter.unusedVariables false

theorem put_from {w0 W : World} (n b : Int) (h : Hid (Below w0.heap.size w0 W)) (hn : -9223372036854775808 ≤ n ∧ n ≤ 9223372036854775807) (hb : -9223372036854775808 ≤ b ∧ b ≤ 9223372036854775807) :
    Calls Try.prog 9 #[.int .i64 n, .int .i64 b] W fun e w' => e = .returned (.tuple #[.string (strOfNums (putL n b)), .bool (isB b)]) ∧ Hid (Below w0.heap.size w0 w') :=
  (put_any n b W hn hb).mono fun _ _ ⟨he, hb⟩ => ⟨he, Lib.hid (h.out.trans (hb.mono h.out.size))⟩
theorem rput_from {w0 W : World} (n b : Int) (h : Hid (Below w0.heap.size w0 W)) (hn : -9223372036854775808 ≤ n ∧ n ≤ 9223372036854775807) (hb : -9223372036854775808 ≤ b ∧ b ≤ 9223372036854775807) :
    Calls Try.prog 10 #[.int .i64 n, .int .i64 b] W fun e w' => e = .returned (.tuple #[.string (strOfNums (putL n b)), .bool (isB b)]) ∧ Hid (Below w0.heap.size w0 w') :=
  (rput_any n b W hn hb).mono fun _ _ ⟨he, hb⟩ => ⟨he, Lib.hid (h.out.trans (hb.mono h.out.size))⟩
theorem take_from {w0 W : World} (xs : List Int) (b : Int) (h : Hid (Below w0.heap.size w0 W)) (hx : bytesOk xs) (hn : xs.length ≤ 1000) (hb : -9223372036854775808 ≤ b ∧ b ≤ 9223372036854775807) :
    Calls Try.prog 11 #[.string (strOfNums xs), .int .i64 b] W fun e w' => e = .returned (.tuple #[.int .i64 (takeL xs b).1, .bool (takeL xs b).2]) ∧ Hid (Below w0.heap.size w0 w') :=
  (take_any xs b W hx hn hb).mono fun _ _ ⟨he, hb⟩ => ⟨he, Lib.hid (h.out.trans (hb.mono h.out.size))⟩
theorem take_as {w0 W : World} (xs : List Int) (s : ByteArray) (b v : Int) (o : Bool) (h : Hid (Below w0.heap.size w0 W)) (hs : s = strOfNums xs) (hx : bytesOk xs) (hn : xs.length ≤ 1000) (hb : -9223372036854775808 ≤ b ∧ b ≤ 9223372036854775807) (ht : takeL xs b = (v, o)) :
    Calls Try.prog 11 #[.string s, .int .i64 b] W fun e w' => e = .returned (.tuple #[.int .i64 v, .bool o]) ∧ Hid (Below w0.heap.size w0 w') := by
  have := take_from xs b h hx hn hb
  rw [ht] at this
  rw [hs]
  exact this
theorem bytes_put (n b : Int) : bytesOk (putL n b) := fun x hx => by have := putL_byte n b x hx; omega
theorem bytes_cons {c : Int} {xs : List Int} (hc : 0 ≤ c ∧ c ≤ 255) (h : bytesOk xs) : bytesOk (c :: xs) := by
  intro x hx
  rcases List.mem_cons.1 hx with rfl | hx
  · exact hc
  · exact h x hx

theorem put_255 : putL (-255) 16 = [45, 70, 70] := by
  have e : digs 16 255 = [15, 15] := by
    rw [digs_big (by decide) (by decide), show 255 / 16 = 15 by decide, digs_small (by decide)]
    rfl
  rw [putL_neg (by decide) (by decide)]
  show 45 :: (digs 16 255).map fig = _
  rw [e]
  decide

theorem awake_any (w : World) :
    Calls Try.prog 8 #[] w fun e w' => e = .returned (.bool true) ∧ Hid (Below w.heap.size w w') := by
  have h0 := Lib.hid (Below.refl w.heap.size w)
  have p1 : Hid (∀ W, Hid (Below w.heap.size w W) → Calls Try.prog 9 #[.int .i64 (-255), .int .i64 16] W fun e w' => e = .returned (.tuple #[.string ⟨#[45, 70, 70]⟩, .bool true]) ∧ Hid (Below w.heap.size w w')) := fun W h => by
    have := put_from (-255) 16 h (by decide) (by decide)
    rw [put_255, show strOfNums [45, 70, 70] = ⟨#[45, 70, 70]⟩ by decide +kernel, show isB 16 = true from rfl] at this
    exact this
  have t1 : Hid (∀ W, Hid (Below w.heap.size w W) → Calls Try.prog 11 #[.string ⟨#[36, 45, 102, 70]⟩, .int .i64 10] W fun e w' => e = .returned (.tuple #[.int .i64 (-255), .bool true]) ∧ Hid (Below w.heap.size w w')) := fun W h => take_as [36, 45, 102, 70] _ 10 _ _ h (by decide +kernel) (by unfold bytesOk; decide) (by decide) (by decide) (by decide +kernel)
  have t2 : Hid (∀ W, Hid (Below w.heap.size w W) → Calls Try.prog 11 #[.string ⟨#[39, 65, 39]⟩, .int .i64 1] W fun e w' => e = .returned (.tuple #[.int .i64 65, .bool true]) ∧ Hid (Below w.heap.size w w')) := fun W h => take_as [39, 65, 39] _ 1 _ _ h (by decide +kernel) (by unfold bytesOk; decide) (by decide) (by decide) (by decide +kernel)
  have t3 : Hid (∀ W, Hid (Below w.heap.size w W) → Calls Try.prog 11 #[.string ⟨#[]⟩, .int .i64 10] W fun e w' => e = .returned (.tuple #[.int .i64 0, .bool false]) ∧ Hid (Below w.heap.size w w')) := fun W h => take_as [] _ 10 _ _ h rfl (by unfold bytesOk; decide) (by decide) (by decide) (by decide +kernel)
  go_enter Try.func8, Try.ntmps8
  go_wp2_with (first | (go_at_call 9; (with_reducible refine (p1.out _ (by assumption)).mono ?_); rintro e w1 ⟨rfl, hb1⟩) | (go_at_call 11; (with_reducible refine (t1.out _ (by assumption)).mono ?_); rintro e w2 ⟨rfl, hb2⟩) | (go_at_call 11; (with_reducible refine (t2.out _ (by assumption)).mono ?_); rintro e w3 ⟨rfl, hb3⟩) | (go_at_call 11; (with_reducible refine (t3.out _ (by assumption)).mono ?_); rintro e w4 ⟨rfl, hb4⟩))
  go_ret
  exact ⟨rfl, hb4⟩
end Go.Proofs.Ytjlnfconolndoaa
