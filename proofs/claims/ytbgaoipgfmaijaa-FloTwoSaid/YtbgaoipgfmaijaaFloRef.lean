/- The document's answers for package flo: Num, cell, least, greatest, Less, Same. -/
import Derived.Test.YtbgaoipgfmaijaaFloTwo
namespace Go.Proofs.Ytbgaoipgfmaijaa
open Go.ChangeShapes Go.WideShapes Go.ChangeAt Go.RowKit
set_option linter.unusedVariables false

theorem retB {a b : Bool} (h : a = b) : Ending.returned (.bool a) = .returned (.bool b) := by rw [h]
theorem run_cb (a : Int) (w : World) : (callFunc 27 #[.int .u64 (IntKind.u64.wrap a)]).run Try.prog w = .ok (.value (.float .f64 (cb a))) w := run_frombits _ w
theorem uw (x : Int) : IntKind.u64.wrap x = x % 18446744073709551616 := by simp [IntKind.wrap, IntKind.bits, IntKind.signed]
theorem cb_lt (a : Int) : cb a < 18446744073709551616 := by unfold cb; rw [uw]; omega
theorem ng_cb (a : Int) (h : -9223372036854775808 ≤ a ∧ a ≤ 9223372036854775807) : ng (cb a) = decide (a < 0) := by
  unfold ng cb
  rw [uw, Bool.eq_iff_iff, beq_iff_eq, decide_eq_true_eq]; omega
theorem wrap_cb (a : Int) (h : -9223372036854775808 ≤ a ∧ a ≤ 9223372036854775807) : wrap64 (cb a) = a := by
  unfold cb wrap64; rw [uw]; omega
theorem tld_cb (a : Int) (h : -9223372036854775808 ≤ a ∧ a ≤ 9223372036854775807) (hn : nanB (cb a) = false) : tld (cb a) = a := by
  rw [← tld_num hn]; exact wrap_cb a h

/-! ### Num, cell, Less, Same -/
theorem num_any (a : Int) (w : World) :
    Calls Try.prog 14 #[.int .i64 a] w fun e w' => e = .returned (.bool (!nanB (cb a))) ∧ w = w' := by
  have hd := run_cb a
  have H := Lib.hid (order_self (cb a))
  go_enter Try.func14, Try.ntmps14
  go_wp2
  go_ret
  exact ⟨retB H.out, rfl⟩
theorem rcell_num (x : Nat) (w : World) (h : nanB x = false) :
    Calls Try.prog 28 #[.float .f64 x] w fun e w' => e = .returned (.int .i64 (tld x)) ∧ w = w' := by
  have hd := run_tobits
  have H := Lib.hid (tld_num h)
  have t : (FloatKind.f64.format.order x x != some .eq) = false := by
    have := order_self x; rw [h] at this; rw [bne, show (FloatKind.f64.format.order x x == some .eq) = _ from this]; rfl
  go_enter Try.func28, Try.ntmps28
  go_wp2
  go_ret
  exact ⟨retI H.out, rfl⟩
theorem rcell_nan (x : Nat) (w : World) (h : nanB x = true) :
    Calls Try.prog 28 #[.float .f64 x] w fun e w' => e = .returned (.int .i64 (tld x)) ∧ w = w' := by
  have H := Lib.hid (tld_nan h)
  have t : (FloatKind.f64.format.order x x != some .eq) = true := by
    have := order_self x; rw [h] at this; rw [bne, show (FloatKind.f64.format.order x x == some .eq) = _ from this]; rfl
  go_enter Try.func28, Try.ntmps28
  go_wp2
  go_ret
  exact ⟨retI H.out, rfl⟩
theorem rcell_any (x : Nat) (w : World) :
    Calls Try.prog 28 #[.float .f64 x] w fun e w' => e = .returned (.int .i64 (tld x)) ∧ w = w' := by
  cases h : nanB x
  · exact rcell_num x w h
  · exact rcell_nan x w h
theorem less_any (a b : Int) (w : World) :
    Calls Try.prog 15 #[.int .i64 a, .int .i64 b] w fun e w' => e = .returned (.bool (ltB (cb a) (cb b))) ∧ w = w' := by
  go_enter Try.func15, Try.ntmps15
  go_wp2_with (go_at_call 26; refine (float_any _ _).mono ?_; rintro e w' ⟨rfl, rfl⟩)
  go_ret
  exact ⟨rfl, rfl⟩
theorem same_any (a b : Int) (w : World) :
    Calls Try.prog 17 #[.int .i64 a, .int .i64 b] w fun e w' => e = .returned (.bool (eqB (cb a) (cb b))) ∧ w = w' := by
  go_enter Try.func17, Try.ntmps17
  go_wp2_with (go_at_call 26; refine (float_any _ _).mono ?_; rintro e w' ⟨rfl, rfl⟩)
  go_ret
  exact ⟨rfl, rfl⟩
theorem rless_any (a b : Int) (w : World) :
    Calls Try.prog 18 #[.int .i64 a, .int .i64 b] w fun e w' => e = .returned (.bool (ltB (cb a) (cb b))) ∧ w = w' := by
  have hd := run_cb a
  have hd2 := run_cb b
  go_enter Try.func18, Try.ntmps18
  go_wp2
  go_ret
  exact ⟨rfl, rfl⟩
theorem rsame_any (a b : Int) (w : World) :
    Calls Try.prog 19 #[.int .i64 a, .int .i64 b] w fun e w' => e = .returned (.bool (eqB (cb a) (cb b))) ∧ w = w' := by
  have hd := run_cb a
  have hd2 := run_cb b
  go_enter Try.func19, Try.ntmps19
  go_wp2
  go_ret
  exact ⟨rfl, rfl⟩

/-! ### least, greatest -/
def lsI (a b : Int) : Int := if ltB (cb a) (cb b) then a else if ltB (cb b) (cb a) then b else if a < 0 then a else b
def gtI (a b : Int) : Int := if lsI a b = a then b else a
theorem minus_any (a : Int) (w : World) :
    Calls Try.prog 43 #[.int .i64 a] w fun e w' => e = .returned (.bool (decide (a < 0))) ∧ w = w' := by
  go_enter Try.func43, Try.ntmps43
  go_wp2
  go_ret
  exact ⟨rfl, rfl⟩
theorem least_any (a b : Int) (w : World) :
    Calls Try.prog 29 #[.int .i64 a, .int .i64 b] w fun e w' => e = .returned (.int .i64 (lsI a b)) ∧ w = w' := by
  have hd := run_cb a
  have hd2 := run_cb b
  cases h1 : ltB (cb a) (cb b)
  · have t1 : (FloatKind.f64.format.order (cb a) (cb b) == some .lt) = false := h1
    cases h2 : ltB (cb b) (cb a)
    · have t2 : (FloatKind.f64.format.order (cb a) (cb b) == some .gt) = false := (gt_lt (cb a) (cb b)).trans h2
      have H := Lib.hid (show (if a < 0 then a else b) = lsI a b by unfold lsI; rw [h1, h2]; rfl)
      clear h1 h2
      by_cases h3 : a < 0
      · go_enter Try.func29, Try.ntmps29
        go_wp2_with (go_at_call 43; refine (minus_any _ _).mono ?_; rintro e w' ⟨rfl, rfl⟩)
        go_ret
        exact ⟨retI (by rw [← H.out, if_pos (by omega)]), rfl⟩
      · go_enter Try.func29, Try.ntmps29
        go_wp2_with (go_at_call 43; refine (minus_any _ _).mono ?_; rintro e w' ⟨rfl, rfl⟩)
        go_ret
        exact ⟨retI (by rw [← H.out, if_neg (by omega)]), rfl⟩
    · have t2 : (FloatKind.f64.format.order (cb a) (cb b) == some .gt) = true := (gt_lt (cb a) (cb b)).trans h2
      have H := Lib.hid (show b = lsI a b by unfold lsI; rw [h1, h2]; rfl)
      clear h1 h2
      go_enter Try.func29, Try.ntmps29
      go_wp2
      go_ret
      exact ⟨retI H.out, rfl⟩
  · have t1 : (FloatKind.f64.format.order (cb a) (cb b) == some .lt) = true := h1
    have H := Lib.hid (show a = lsI a b by unfold lsI; rw [h1]; rfl)
    clear h1
    go_enter Try.func29, Try.ntmps29
    go_wp2
    go_ret
    exact ⟨retI H.out, rfl⟩
theorem greatest_any (a b : Int) (w : World) :
    Calls Try.prog 30 #[.int .i64 a, .int .i64 b] w fun e w' => e = .returned (.int .i64 (gtI a b)) ∧ w = w' := by
  by_cases h : lsI a b = a
  · have t : (lsI a b == a) = true := by simpa using h
    have H := Lib.hid (show b = gtI a b by unfold gtI; rw [if_pos h])
    clear h
    go_enter Try.func30, Try.ntmps30
    go_wp2_with (go_at_call 29; refine (least_any _ _ _).mono ?_; rintro e w' ⟨rfl, rfl⟩)
    go_ret
    exact ⟨retI H.out, rfl⟩
  · have t : (lsI a b == a) = false := by simpa using h
    have H := Lib.hid (show a = gtI a b by unfold gtI; rw [if_neg h])
    clear h
    go_enter Try.func30, Try.ntmps30
    go_wp2_with (go_at_call 29; refine (least_any _ _ _).mono ?_; rintro e w' ⟨rfl, rfl⟩)
    go_ret
    exact ⟨retI H.out, rfl⟩
theorem mn_ls (a b : Int) (ha : -9223372036854775808 ≤ a ∧ a ≤ 9223372036854775807) (hb : -9223372036854775808 ≤ b ∧ b ≤ 9223372036854775807) (hx : nanB (cb a) = false) (hy : nanB (cb b) = false) : tlo (mnB (cb a) (cb b)) = lsI a b := by
  have ea := tld_cb a ha hx
  have eb := tld_cb b hb hy
  have hng := ng_cb a ha
  have hg := gt_lt (cb a) (cb b)
  unfold mnB lsI
  rw [← hg]; unfold ltB
  have ho := order_num (cb a) (cb b) hx hy
  rw [ho]
  generalize compare (sv (cb a)) (sv (cb b)) = o
  cases o
  · exact ea
  · show tlo (some (if ng (cb a) then cb a else cb b)) = if a < 0 then a else b
    rw [hng]
    by_cases h : a < 0
    · simp only [h, decide_true, if_true]; exact ea
    · simp only [h, decide_false, if_false]; exact eb
  · exact eb
theorem mx_gt (a b : Int) (ha : -9223372036854775808 ≤ a ∧ a ≤ 9223372036854775807) (hb : -9223372036854775808 ≤ b ∧ b ≤ 9223372036854775807) (hx : nanB (cb a) = false) (hy : nanB (cb b) = false) : tlo (mxB (cb a) (cb b)) = gtI a b := by
  have ea := tld_cb a ha hx
  have eb := tld_cb b hb hy
  have hng := ng_cb a ha
  have hg := gt_lt (cb a) (cb b)
  unfold mxB gtI lsI
  rw [← hg]; unfold ltB
  have ho := order_num (cb a) (cb b) hx hy
  rw [ho]
  generalize compare (sv (cb a)) (sv (cb b)) = o
  cases o
  · show tld (cb b) = if (if true = true then a else _) = a then b else a
    rw [if_pos rfl, if_pos rfl]; exact eb
  · show tlo (some (if ng (cb a) then cb b else cb a)) = if (if a < 0 then a else b) = a then b else a
    rw [hng]
    by_cases h : a < 0
    · simp only [h, decide_true, if_true]; exact eb
    · simp only [h, decide_false, if_false]
      by_cases h2 : b = a
      · rw [if_pos h2]; rw [h2]; exact ea
      · rw [if_neg h2]; exact ea
  · show tld (cb a) = if b = a then b else a
    by_cases h2 : b = a
    · rw [if_pos h2]; rw [h2]; exact ea
    · rw [if_neg h2]; exact ea
end Go.Proofs.Ytbgaoipgfmaijaa
