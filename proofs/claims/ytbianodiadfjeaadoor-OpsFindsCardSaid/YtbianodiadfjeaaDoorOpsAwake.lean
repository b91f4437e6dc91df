/- The statements' own awake: true; the contracts told from a law's first world on. -/
import Derived.Test.YtbianodiadfjeaaDoorOpsRef
namespace Go.Proofs.YtbianodiadfjeaaDoor
open Go.ChangeShapes Go.WideShapes Go.RowKit
set_option linter.unusedVariables false

def I64 (op : Int) : Prop := -9223372036854775808 ≤ op ∧ op ≤ 9223372036854775807
theorem name_from {w0 W : World} (op : Int) (hL : Laid w0) (h : Hid (Below w0.heap.size w0 W)) (hb : I64 op) :
    Calls Tryd.prog 9 #[.int .i64 op] W fun e w' => e = .returned (.string (strOfNums (nm op))) ∧ W = w' := name_any op W (hL.from h) hb
theorem inn_from {w0 W : World} (op : Int) (hL : Laid w0) (h : Hid (Below w0.heap.size w0 W)) (hb : I64 op) :
    Calls Tryd.prog 13 #[.int .i64 op] W fun e w' => e = .returned (.bool (inn op)) ∧ Hid (Below w0.heap.size w0 w') :=
  (inn_any op W (hL.from h) hb).mono fun _ _ ⟨he, hb⟩ => ⟨he, Lib.hid (h.out.trans (hb.mono h.out.size))⟩
theorem now_from {w0 W : World} (op : Int) (hL : Laid w0) (h : Hid (Below w0.heap.size w0 W)) (hb : I64 op) :
    Calls Tryd.prog 15 #[.int .i64 op] W fun e w' => e = .returned (.bool (now op)) ∧ Hid (Below w0.heap.size w0 w') :=
  (now_any op W (hL.from h) hb).mono fun _ _ ⟨he, hb⟩ => ⟨he, Lib.hid (h.out.trans (hb.mono h.out.size))⟩
theorem onl_from {w0 W : World} (op : Int) (hL : Laid w0) (h : Hid (Below w0.heap.size w0 W)) (hb : I64 op) :
    Calls Tryd.prog 17 #[.int .i64 op] W fun e w' => e = .returned (.bool (onl op)) ∧ Hid (Below w0.heap.size w0 w') :=
  (onl_any op W (hL.from h) hb).mono fun _ _ ⟨he, hb⟩ => ⟨he, Lib.hid (h.out.trans (hb.mono h.out.size))⟩
theorem wid_from {w0 W : World} (op : Int) (hL : Laid w0) (h : Hid (Below w0.heap.size w0 W)) (hb : I64 op) :
    Calls Tryd.prog 19 #[.int .i64 op] W fun e w' => e = .returned (.bool (wid op)) ∧ Hid (Below w0.heap.size w0 w') :=
  (wid_any op W (hL.from h) hb).mono fun _ _ ⟨he, hb⟩ => ⟨he, Lib.hid (h.out.trans (hb.mono h.out.size))⟩
theorem find_from {w0 W : World} (xs : List Int) (hL : Laid w0) (h : Hid (Below w0.heap.size w0 W)) (hx : bytesOk xs) (hn : xs.length ≤ 1000) :
    Calls Tryd.prog 21 #[.string (strOfNums xs)] W fun e w' => e = .returned (.int .i64 (fnO (fold xs))) ∧ Hid (Below w0.heap.size w0 w') :=
  (find_any xs W (hL.from h) hx hn).mono fun _ _ ⟨he, hb⟩ => ⟨he, Lib.hid (h.out.trans (hb.mono h.out.size))⟩
theorem rfind_from {w0 W : World} (xs : List Int) (h : Hid (Below w0.heap.size w0 W)) (hx : bytesOk xs) (hn : xs.length ≤ 1000) :
    Calls Tryd.prog 22 #[.string (strOfNums xs)] W fun e w' => e = .returned (.int .i64 (fnO (fold xs))) ∧ Hid (Below w0.heap.size w0 w') :=
  (rfind_any xs W hx hn).mono fun _ _ ⟨he, hb⟩ => ⟨he, Lib.hid (h.out.trans (hb.mono h.out.size))⟩
theorem rfold_from {w0 W : World} (xs : List Int) (h : Hid (Below w0.heap.size w0 W)) (hx : bytesOk xs) (hn : xs.length ≤ 1000) :
    Calls Tryd.prog 23 #[.string (strOfNums xs)] W fun e w' => e = .returned (.string (strOfNums (fold xs))) ∧ Hid (Below w0.heap.size w0 w') :=
  (rfold_any xs W hx hn).mono fun _ _ ⟨he, hb⟩ => ⟨he, Lib.hid (h.out.trans (hb.mono h.out.size))⟩
theorem find_as {w0 W : World} (xs : List Int) (s : ByteArray) (v : Int) (hL : Laid w0) (h : Hid (Below w0.heap.size w0 W)) (hs : s = strOfNums xs) (hx : bytesOk xs) (hn : xs.length ≤ 1000) (hv : fnO (fold xs) = v) :
    Calls Tryd.prog 21 #[.string s] W fun e w' => e = .returned (.int .i64 v) ∧ Hid (Below w0.heap.size w0 w') := by
  have := find_from xs hL h hx hn
  rw [hv] at this
  rw [hs]
  exact this

theorem awake_any (w : World) (hL : Laid w) :
    Calls Tryd.prog 8 #[] w fun e w' => e = .returned (.bool true) ∧ Hid (Below w.heap.size w w') := by
  have h0 := Lib.hid (Below.refl w.heap.size w)
  have t1 : Hid (∀ V, Hid (Below w.heap.size w V) → Calls Tryd.prog 21 #[.string ⟨#[100, 117, 112]⟩] V fun e w' => e = .returned (.int .i64 13) ∧ Hid (Below w.heap.size w w')) := Lib.hid fun V h =>
    find_as [100, 117, 112] _ _ hL h (by decide +kernel) (by unfold bytesOk; decide) (by decide) (by decide +kernel)
  have t2 : Hid (∀ V, Hid (Below w.heap.size w V) → Calls Tryd.prog 21 #[.string ⟨#[40, 76, 73, 84, 41]⟩] V fun e w' => e = .returned (.int .i64 0) ∧ Hid (Below w.heap.size w w')) := Lib.hid fun V h =>
    find_as [40, 76, 73, 84, 41] _ _ hL h (by decide +kernel) (by unfold bytesOk; decide) (by decide) (by decide +kernel)
  have t3 : Hid (∀ V, Hid (Below w.heap.size w V) → Calls Tryd.prog 9 #[.int .i64 13] V fun e w' => e = .returned (.string (strOfNums (nm 13))) ∧ V = w') := Lib.hid fun V h => name_from 13 hL h (by unfold I64; omega)
  have t4 : Hid (∀ V, Hid (Below w.heap.size w V) → Calls Tryd.prog 13 #[.int .i64 2] V fun e w' => e = .returned (.bool true) ∧ Hid (Below w.heap.size w w')) := Lib.hid fun V h => inn_from 2 hL h (by unfold I64; omega)
  have t5 : Hid (∀ V, Hid (Below w.heap.size w V) → Calls Tryd.prog 15 #[.int .i64 98] V fun e w' => e = .returned (.bool true) ∧ Hid (Below w.heap.size w w')) := Lib.hid fun V h => now_from 98 hL h (by unfold I64; omega)
  have t6 : Hid (∀ V, Hid (Below w.heap.size w V) → Calls Tryd.prog 15 #[.int .i64 13] V fun e w' => e = .returned (.bool false) ∧ Hid (Below w.heap.size w w')) := Lib.hid fun V h => now_from 13 hL h (by unfold I64; omega)
  have t7 : Hid (∀ V, Hid (Below w.heap.size w V) → Calls Tryd.prog 17 #[.int .i64 1] V fun e w' => e = .returned (.bool true) ∧ Hid (Below w.heap.size w w')) := Lib.hid fun V h => onl_from 1 hL h (by unfold I64; omega)
  have t8 : Hid (∀ V, Hid (Below w.heap.size w V) → Calls Tryd.prog 19 #[.int .i64 2] V fun e w' => e = .returned (.bool true) ∧ Hid (Below w.heap.size w w')) := Lib.hid fun V h => wid_from 2 hL h (by unfold I64; omega)
  have t9 : Hid (∀ V, Calls Tryd.prog 11 #[.int .i64 137] V fun e w' => e = .returned (.bool true) ∧ V = w') := Lib.hid fun V => is_any 137 V (by omega)
  have t10 : Hid (∀ V, Calls Tryd.prog 11 #[.int .i64 138] V fun e w' => e = .returned (.bool false) ∧ V = w') := Lib.hid fun V => is_any 138 V (by omega)
  have hdup : ((strOfNums (nm 13)).toList == [68, 85, 80]) = true := by decide +kernel
  generalize strOfNums (nm 13) = z at *
  clear hL
  go_enter Tryd.func8, Tryd.ntmps8
  go_wp2_with (first | (go_at_call 21; (with_reducible refine (t1.out _ h0).mono ?_); rintro e w1 ⟨rfl, hb1⟩) | (go_at_call 9; (with_reducible refine (t3.out _ hb1).mono ?_); rintro e w' ⟨rfl, rfl⟩) | (go_at_call 21; (with_reducible refine (t2.out _ hb1).mono ?_); rintro e w2 ⟨rfl, hb2⟩) | (go_at_call 13; (with_reducible refine (t4.out _ hb2).mono ?_); rintro e w3 ⟨rfl, hb3⟩) | (go_at_call 15; (with_reducible refine (t5.out _ hb3).mono ?_); rintro e w4 ⟨rfl, hb4⟩) | (go_at_call 15; (with_reducible refine (t6.out _ hb4).mono ?_); rintro e w5 ⟨rfl, hb5⟩) | (go_at_call 17; (with_reducible refine (t7.out _ hb5).mono ?_); rintro e w6 ⟨rfl, hb6⟩) | (go_at_call 19; (with_reducible refine (t8.out _ hb6).mono ?_); rintro e w7 ⟨rfl, hb7⟩) | (go_at_call 11; (with_reducible refine (t9.out _).mono ?_); rintro e w' ⟨rfl, rfl⟩) | (go_at_call 11; (with_reducible refine (t10.out _).mono ?_); rintro e w' ⟨rfl, rfl⟩))
  go_ret
  exact ⟨rfl, hb7⟩
end Go.Proofs.YtbianodiadfjeaaDoor
