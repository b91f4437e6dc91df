/- The statements' own awake: true; the contracts told from a law's first world on. -/
import Derived.Test.YtklhehodhlmhaaaNamRfind
namespace Go.Proofs.Ytklhehodhlmhaaa
open Go.ChangeShapes Go.WideShapes Go.RowKit
set_option linter.unusedVariables false

theorem fold_from {w0 W : World} (xs : List Int) (h : Hid (Below w0.heap.size w0 W)) (hx : bytesOk xs) (hn : xs.length ≤ 1000) :
    Calls Try.prog 9 #[.string (strOfNums xs)] W fun e w' => e = .returned (.string (strOfNums (fold xs))) ∧ Hid (Below w0.heap.size w0 w') :=
  (fold_any xs W hx hn).mono fun _ _ ⟨he, hb⟩ => ⟨he, Lib.hid (h.out.trans (hb.mono h.out.size))⟩
theorem rfold_from {w0 W : World} (xs : List Int) (h : Hid (Below w0.heap.size w0 W)) (hx : bytesOk xs) (hn : xs.length ≤ 1000) :
    Calls Try.prog 10 #[.string (strOfNums xs)] W fun e w' => e = .returned (.string (strOfNums (fold xs))) ∧ Hid (Below w0.heap.size w0 w') :=
  (rfold_any xs W hx hn).mono fun _ _ ⟨he, hb⟩ => ⟨he, Lib.hid (h.out.trans (hb.mono h.out.size))⟩
theorem find_from {w0 W : World} (a : Option Addr) (n c : Nat) (ws : List Wd) (nm : List Int) (h : Hid (Below w0.heap.size w0 W)) (hs : Ws W a n c ws) (hw : ∀ x ∈ ws, x.ok 1000) (hn : n ≤ 1000) (hx : bytesOk nm) (hl : nm.length ≤ 1000) :
    Calls Try.prog 14 #[.slice a n c, .string (strOfNums nm)] W fun e w' => e = .returned (.int .i64 (fnd ws nm)) ∧ Hid (Below w0.heap.size w0 w') :=
  (find_any a n c ws nm W hs hw hn hx hl).mono fun _ _ ⟨he, hb⟩ => ⟨he, Lib.hid (h.out.trans (hb.mono h.out.size))⟩
theorem rfind_from {w0 W : World} (a : Option Addr) (n c : Nat) (ws : List Wd) (nm : List Int) (h : Hid (Below w0.heap.size w0 W)) (hs : Ws W a n c ws) (hw : ∀ x ∈ ws, x.ok 1000) (hn : n ≤ 1000) (hx : bytesOk nm) (hl : nm.length ≤ 1000) :
    Calls Try.prog 15 #[.slice a n c, .string (strOfNums nm)] W fun e w' => e = .returned (.int .i64 (fnd ws nm)) ∧ Hid (Below w0.heap.size w0 w') :=
  (rfind_any a n c ws nm W hs hw hn hx hl).mono fun _ _ ⟨he, hb⟩ => ⟨he, Lib.hid (h.out.trans (hb.mono h.out.size))⟩
/-- words that lay there at a law's begin, in every world behind it -/
theorem Ws.from {w0 W : World} {a : Option Addr} {n c : Nat} {ws : List Wd} (hs : Ws w0 a n c ws) (h : Hid (Below w0.heap.size w0 W)) : Ws W a n c ws := hs.below h.out

theorem fold_as {w0 W : World} (xs : List Int) (s z : ByteArray) (h : Hid (Below w0.heap.size w0 W)) (hs : s = strOfNums xs) (hx : bytesOk xs) (hn : xs.length ≤ 1000) (hz : strOfNums (fold xs) = z) :
    Calls Try.prog 9 #[.string s] W fun r w' => r = .returned (.string z) ∧ Hid (Below w0.heap.size w0 w') := by
  have := fold_from xs h hx hn
  rw [hz] at this
  rw [hs]
  exact this
theorem may_as (xs : List Int) (s : ByteArray) (v : Int) (W : World) (hs : s = strOfNums xs) (hn : xs.length ≤ 1000) (hv : mayN xs.length = v) :
    Calls Try.prog 11 #[.string s] W fun r w' => r = .returned (.int .i64 v) ∧ W = w' := by
  have := may_any xs W hn
  rw [hv] at this
  rw [hs]
  exact this
theorem find_as {w0 W : World} (a : Option Addr) (n c : Nat) (ws : List Wd) (nm : List Int) (s : ByteArray) (v : Int) (h : Hid (Below w0.heap.size w0 W)) (hs : Ws W a n c ws) (hw : ∀ x ∈ ws, x.ok 1000) (hn : n ≤ 1000) (hx : bytesOk nm) (hl : nm.length ≤ 1000)
    (he : s = strOfNums nm) (hv : fnd ws nm = v) :
    Calls Try.prog 14 #[.slice a n c, .string s] W fun e w' => e = .returned (.int .i64 v) ∧ Hid (Below w0.heap.size w0 w') := by
  have := find_from a n c ws nm h hs hw hn hx hl
  rw [hv] at this
  rw [he]
  exact this

/-- words in a slice of the call's own -/
theorem ws_made (W : World) (B : Nat) (hB : B ≤ W.heap.size) (ws : List Wd) (n : Nat) (hn : ws.length = n) (hm : n ≤ 1000) (cur : Array Value) (hc : cur.toList = wcells ws) :
    Oz (W.alloc (.cells cur 31)) B 31 4 (some ⟨W.heap.size, 0, none⟩) n n (wcells ws) := by
  have hs : cur.size = n * 4 := by
    have := wcells_len ws
    rw [← hc, hn] at this
    simpa using this
  have := Oz.full W B 31 4 hB cur n (by unfold maxLen; omega) hs
  rw [hc] at this
  exact this

def awk : List Wd := [⟨[97], 0, false, false⟩, ⟨[65], 0, false, true⟩, ⟨[98], 0, false, false⟩]
theorem awake_any (w : World) :
    Calls Try.prog 8 #[] w fun e w' => e = .returned (.bool true) ∧ Hid (Below w.heap.size w w') := by
  have b1 : ∀ W, (Instr.build 31 #[(0, .string ⟨#[97]⟩)]).run Try.prog W = .ok (.agg #[.string ⟨#[97]⟩, .int .i64 0, .bool false, .bool false]) W := fun W => by kernel_rfl
  have b2 : ∀ W, (Instr.build 31 #[(0, .string ⟨#[65]⟩), (3, .bool true)]).run Try.prog W = .ok (.agg #[.string ⟨#[65]⟩, .int .i64 0, .bool false, .bool true]) W := fun W => by kernel_rfl
  have b3 : ∀ W, (Instr.build 31 #[(0, .string ⟨#[98]⟩)]).run Try.prog W = .ok (.agg #[.string ⟨#[98]⟩, .int .i64 0, .bool false, .bool false]) W := fun W => by kernel_rfl
  obtain ⟨W, hW⟩ : ∃ W, W = w.alloc (.cells #[.string ⟨#[97]⟩, .int .i64 0, .bool false, .bool false, .string ⟨#[65]⟩, .int .i64 0, .bool false, .bool true, .string ⟨#[98]⟩, .int .i64 0, .bool false, .bool false] 31) := ⟨_, rfl⟩
  have hsl := Lib.hid (ws_made w w.heap.size (Nat.le_refl _) awk 3 rfl (by decide) #[.string ⟨#[97]⟩, .int .i64 0, .bool false, .bool false, .string ⟨#[65]⟩, .int .i64 0, .bool false, .bool true, .string ⟨#[98]⟩, .int .i64 0, .bool false, .bool false] (by rfl)).sz
  have hb0 := Lib.hid ((Below.refl w.heap.size w).alloc (Nat.le_refl _) (.cells #[.string ⟨#[97]⟩, .int .i64 0, .bool false, .bool false, .string ⟨#[65]⟩, .int .i64 0, .bool false, .bool true, .string ⟨#[98]⟩, .int .i64 0, .bool false, .bool false] 31))
  rw [← hW] at hsl hb0
  have hok : Hid (∀ x ∈ awk, x.ok 1000) := Lib.hid (by unfold awk Wd.ok bytesOk; simp)
  have t1 : Hid (∀ V, Hid (Below w.heap.size w V) → Calls Try.prog 9 #[.string ⟨#[97, 49, 98]⟩] V fun e w' => e = .returned (.string ⟨#[65, 49, 66]⟩) ∧ Hid (Below w.heap.size w w')) := Lib.hid fun V h =>
    fold_as [97, 49, 98] _ _ h (by decide +kernel) (by unfold bytesOk; decide) (by decide) (by decide +kernel)
  have t2 : Hid (∀ V, Calls Try.prog 11 #[.string ⟨#[]⟩] V fun e w' => e = .returned (.int .i64 (-16)) ∧ V = w') := Lib.hid fun V =>
    may_as [] _ _ V (by decide +kernel) (by decide) (by decide)
  have t3 : Hid (∀ V, Calls Try.prog 11 #[.string ⟨#[120]⟩] V fun e w' => e = .returned (.int .i64 0) ∧ V = w') := Lib.hid fun V =>
    may_as [120] _ _ V (by decide +kernel) (by decide) (by decide)
  have hS : Hid (∀ V, Hid (Below w.heap.size w V) → Hid (Below W.heap.size W V) → Ws V (some ⟨w.heap.size, 0, none⟩) 3 3 awk) := Lib.hid fun V _ h2 => Ws.below (w := W) hsl.out h2.out
  have t4 : Hid (∀ V, Hid (Below W.heap.size W V) → Calls Try.prog 14 #[.slice (some ⟨w.heap.size, 0, none⟩) 3 3, .string ⟨#[65]⟩] V fun e w' => e = .returned (.int .i64 0) ∧ Hid (Below W.heap.size W w')) := Lib.hid fun V h =>
    find_as _ _ _ awk [65] _ _ h (Ws.below (w := W) hsl.out h.out) hok.out (by decide) (by unfold bytesOk; decide) (by decide) (by decide +kernel) (by decide +kernel)
  have t5 : Hid (∀ V, Hid (Below W.heap.size W V) → Calls Try.prog 14 #[.slice (some ⟨w.heap.size, 0, none⟩) 3 3, .string ⟨#[66]⟩] V fun e w' => e = .returned (.int .i64 2) ∧ Hid (Below W.heap.size W w')) := Lib.hid fun V h =>
    find_as _ _ _ awk [66] _ _ h (Ws.below (w := W) hsl.out h.out) hok.out (by decide) (by unfold bytesOk; decide) (by decide) (by decide +kernel) (by decide +kernel)
  have t6 : Hid (∀ V, Hid (Below W.heap.size W V) → Calls Try.prog 14 #[.slice (some ⟨w.heap.size, 0, none⟩) 3 3, .string ⟨#[99]⟩] V fun e w' => e = .returned (.int .i64 (-1)) ∧ Hid (Below W.heap.size W w')) := Lib.hid fun V h =>
    find_as _ _ _ awk [99] _ _ h (Ws.below (w := W) hsl.out h.out) hok.out (by decide) (by unfold bytesOk; decide) (by decide) (by decide +kernel) (by decide +kernel)
  have t1' : Hid (∀ V, Hid (Below W.heap.size W V) → Calls Try.prog 9 #[.string ⟨#[97, 49, 98]⟩] V fun e w' => e = .returned (.string ⟨#[65, 49, 66]⟩) ∧ Hid (Below W.heap.size W w')) := Lib.hid fun V h =>
    fold_as [97, 49, 98] _ _ h (by decide +kernel) (by unfold bytesOk; decide) (by decide) (by decide +kernel)
  have h0 := Lib.hid (Below.refl W.heap.size W)
  clear hsl hok hS t1
  subst hW
  go_enter Try.func8, Try.ntmps8
  go_wp2_with (first | (go_at_call 9; (with_reducible refine (t1'.out _ (by assumption)).mono ?_); rintro e w1 ⟨rfl, hb1⟩) | (go_at_call 11; (with_reducible refine (t2.out _).mono ?_); rintro e w2 ⟨rfl, rfl⟩) | (go_at_call 11; (with_reducible refine (t3.out _).mono ?_); rintro e w2 ⟨rfl, rfl⟩) | (go_at_call 14; (with_reducible refine (t4.out _ hb1).mono ?_); rintro e w3 ⟨rfl, hb3⟩) | (go_at_call 14; (with_reducible refine (t5.out _ hb3).mono ?_); rintro e w4 ⟨rfl, hb4⟩) | (go_at_call 14; (with_reducible refine (t6.out _ hb4).mono ?_); rintro e w5 ⟨rfl, hb5⟩))
  go_ret
  exact ⟨rfl, Lib.hid (hb0.out.trans (hb5.out.mono hb0.out.size))⟩
end Go.Proofs.Ytklhehodhlmhaaa
