/- The statements' own awake: true; the contracts told from a law's first world on. -/
import Derived.Test.YtcjdhajnaonpcaaSrcTok
import Derived.Test.YtcjdhajnaonpcaaSrcUnt
import Derived.Test.YtcjdhajnaonpcaaSrcRun
import Derived.Test.YtcjdhajnaonpcaaSrcPla
namespace Go.Proofs.Ytcjdhajnaonpcaa
open Go.ChangeShapes Go.WideShapes Go.RowKit
set_option linter.unusedVariables false

theorem tok_from {w0 W : World} (xs : List Int) (a : Int) (h : Hid (Below w0.heap.size w0 W)) (hx : bytesOk xs) (hn : xs.length ≤ 1000) (ha : -9223372036854775808 ≤ a ∧ a ≤ 9223372036854775807) :
    Calls Try.prog 9 #[.string (strOfNums xs), .int .i64 a] W fun e w' =>
      e = .returned (.tuple #[.string (strOfNums (tokL xs (bdN xs.length a))), .int .i64 (bg xs (bdN xs.length a) : Nat), .int .i64 (en xs (bg xs (bdN xs.length a)) : Nat)]) ∧ Hid (Below w0.heap.size w0 w') :=
  (tok_any xs a W hx hn ha).mono fun _ _ ⟨he, hb⟩ => ⟨he, Lib.hid (h.out.trans (hb.mono h.out.size))⟩
theorem unt_from {w0 W : World} (xs : List Int) (a c : Int) (h : Hid (Below w0.heap.size w0 W)) (hx : bytesOk xs) (hn : xs.length ≤ 1000) (ha : -9223372036854775808 ≤ a ∧ a ≤ 9223372036854775807) (hc : 0 ≤ c ∧ c ≤ 255) :
    Calls Try.prog 11 #[.string (strOfNums xs), .int .i64 a, .int .u8 c] W fun e w' =>
      e = .returned (.tuple #[.string (strOfNums (cutN xs (hop xs (bdN xs.length a)) (fd xs c (hop xs (bdN xs.length a))))), .int .i64 (behind xs.length (fd xs c (hop xs (bdN xs.length a))) : Nat)]) ∧ Hid (Below w0.heap.size w0 w') :=
  (unt_any xs a c W hx hn ha hc).mono fun _ _ ⟨he, hb⟩ => ⟨he, Lib.hid (h.out.trans (hb.mono h.out.size))⟩
theorem line_from {w0 W : World} (xs : List Int) (a : Int) (h : Hid (Below w0.heap.size w0 W)) (hx : bytesOk xs) (hn : xs.length ≤ 1000) (ha : -9223372036854775808 ≤ a ∧ a ≤ 9223372036854775807) :
    Calls Try.prog 13 #[.string (strOfNums xs), .int .i64 a] W fun e w' =>
      e = .returned (.int .i64 (behind xs.length (fd xs 10 (bdN xs.length a)) : Nat)) ∧ Hid (Below w0.heap.size w0 w') :=
  (line_any xs a W hx hn ha).mono fun _ _ ⟨he, hb⟩ => ⟨he, Lib.hid (h.out.trans (hb.mono h.out.size))⟩
theorem place_from {w0 W : World} (xs : List Int) (a : Int) (h : Hid (Below w0.heap.size w0 W)) (hx : bytesOk xs) (hn : xs.length ≤ 1000) (ha : -9223372036854775808 ≤ a ∧ a ≤ 9223372036854775807) :
    Calls Try.prog 15 #[.string (strOfNums xs), .int .i64 a] W fun e w' =>
      e = .returned (.tuple #[.int .i64 (plc (xs.take (bdN xs.length a))).1, .int .i64 (plc (xs.take (bdN xs.length a))).2]) ∧ Hid (Below w0.heap.size w0 w') :=
  (place_any xs a W hx hn ha).mono fun _ _ ⟨he, hb⟩ => ⟨he, Lib.hid (h.out.trans (hb.mono h.out.size))⟩

theorem tok_as {w0 W : World} (xs : List Int) (s z : ByteArray) (a b e : Int) (h : Hid (Below w0.heap.size w0 W)) (hs : s = strOfNums xs) (hx : bytesOk xs) (hn : xs.length ≤ 1000) (ha : -9223372036854775808 ≤ a ∧ a ≤ 9223372036854775807)
    (hz : strOfNums (tokL xs (bdN xs.length a)) = z) (hb : ((bg xs (bdN xs.length a) : Nat) : Int) = b) (he : ((en xs (bg xs (bdN xs.length a)) : Nat) : Int) = e) :
    Calls Try.prog 9 #[.string s, .int .i64 a] W fun r w' => r = .returned (.tuple #[.string z, .int .i64 b, .int .i64 e]) ∧ Hid (Below w0.heap.size w0 w') := by
  have := tok_from xs a h hx hn ha
  rw [hz, hb, he] at this
  rw [hs]
  exact this
theorem unt_as {w0 W : World} (xs : List Int) (s z : ByteArray) (a c e : Int) (h : Hid (Below w0.heap.size w0 W)) (hs : s = strOfNums xs) (hx : bytesOk xs) (hn : xs.length ≤ 1000) (ha : -9223372036854775808 ≤ a ∧ a ≤ 9223372036854775807) (hc : 0 ≤ c ∧ c ≤ 255)
    (hz : strOfNums (cutN xs (hop xs (bdN xs.length a)) (fd xs c (hop xs (bdN xs.length a)))) = z) (he : ((behind xs.length (fd xs c (hop xs (bdN xs.length a))) : Nat) : Int) = e) :
    Calls Try.prog 11 #[.string s, .int .i64 a, .int .u8 c] W fun r w' => r = .returned (.tuple #[.string z, .int .i64 e]) ∧ Hid (Below w0.heap.size w0 w') := by
  have := unt_from xs a c h hx hn ha hc
  rw [hz, he] at this
  rw [hs]
  exact this
theorem line_as {w0 W : World} (xs : List Int) (s : ByteArray) (a e : Int) (h : Hid (Below w0.heap.size w0 W)) (hs : s = strOfNums xs) (hx : bytesOk xs) (hn : xs.length ≤ 1000) (ha : -9223372036854775808 ≤ a ∧ a ≤ 9223372036854775807)
    (he : ((behind xs.length (fd xs 10 (bdN xs.length a)) : Nat) : Int) = e) :
    Calls Try.prog 13 #[.string s, .int .i64 a] W fun r w' => r = .returned (.int .i64 e) ∧ Hid (Below w0.heap.size w0 w') := by
  have := line_from xs a h hx hn ha
  rw [he] at this
  rw [hs]
  exact this
theorem place_as {w0 W : World} (xs : List Int) (s : ByteArray) (a l c : Int) (h : Hid (Below w0.heap.size w0 W)) (hs : s = strOfNums xs) (hx : bytesOk xs) (hn : xs.length ≤ 1000) (ha : -9223372036854775808 ≤ a ∧ a ≤ 9223372036854775807)
    (he : plc (xs.take (bdN xs.length a)) = (l, c)) :
    Calls Try.prog 15 #[.string s, .int .i64 a] W fun r w' => r = .returned (.tuple #[.int .i64 l, .int .i64 c]) ∧ Hid (Below w0.heap.size w0 w') := by
  have := place_from xs a h hx hn ha
  rw [he] at this
  rw [hs]
  exact this

theorem awake_any (w : World) :
    Calls Try.prog 8 #[] w fun e w' => e = .returned (.bool true) ∧ Hid (Below w.heap.size w w') := by
  have h0 := Lib.hid (Below.refl w.heap.size w)
  have t1 : Hid (∀ W, Hid (Below w.heap.size w W) → Calls Try.prog 9 #[.string ⟨#[32, 97, 98, 10, 99]⟩, .int .i64 0] W fun e w' => e = .returned (.tuple #[.string ⟨#[97, 98]⟩, .int .i64 1, .int .i64 3]) ∧ Hid (Below w.heap.size w w')) := fun W h =>
    tok_as [32, 97, 98, 10, 99] _ _ 0 _ _ h (by decide +kernel) (by unfold bytesOk; decide) (by decide) (by decide) (by decide +kernel) (by decide +kernel) (by decide +kernel)
  have t2 : Hid (∀ W, Hid (Below w.heap.size w W) → Calls Try.prog 11 #[.string ⟨#[32, 97, 41, 32, 98]⟩, .int .i64 0, .int .u8 41] W fun e w' => e = .returned (.tuple #[.string ⟨#[97]⟩, .int .i64 3]) ∧ Hid (Below w.heap.size w w')) := fun W h =>
    unt_as [32, 97, 41, 32, 98] _ _ 0 41 _ h (by decide +kernel) (by unfold bytesOk; decide) (by decide) (by decide) (by decide) (by decide +kernel) (by decide +kernel)
  have t3 : Hid (∀ W, Hid (Below w.heap.size w W) → Calls Try.prog 15 #[.string ⟨#[97, 10, 98, 99]⟩, .int .i64 3] W fun e w' => e = .returned (.tuple #[.int .i64 2, .int .i64 2]) ∧ Hid (Below w.heap.size w w')) := fun W h =>
    place_as [97, 10, 98, 99] _ 3 _ _ h (by decide +kernel) (by unfold bytesOk; decide) (by decide) (by decide) (by decide +kernel)
  have t4 : Hid (∀ W, Hid (Below w.heap.size w W) → Calls Try.prog 13 #[.string ⟨#[97, 10, 98]⟩, .int .i64 0] W fun e w' => e = .returned (.int .i64 2) ∧ Hid (Below w.heap.size w w')) := fun W h =>
    line_as [97, 10, 98] _ 0 _ h (by decide +kernel) (by unfold bytesOk; decide) (by decide) (by decide) (by decide +kernel)
  go_enter Try.func8, Try.ntmps8
  go_wp2_with (first | (go_at_call 9; (with_reducible refine (t1.out _ (by assumption)).mono ?_); rintro e w1 ⟨rfl, hb1⟩) | (go_at_call 11; (with_reducible refine (t2.out _ (by assumption)).mono ?_); rintro e w2 ⟨rfl, hb2⟩) | (go_at_call 15; (with_reducible refine (t3.out _ (by assumption)).mono ?_); rintro e w3 ⟨rfl, hb3⟩) | (go_at_call 13; (with_reducible refine (t4.out _ (by assumption)).mono ?_); rintro e w4 ⟨rfl, hb4⟩))
  go_ret
  exact ⟨rfl, hb4⟩
end Go.Proofs.Ytcjdhajnaonpcaa
