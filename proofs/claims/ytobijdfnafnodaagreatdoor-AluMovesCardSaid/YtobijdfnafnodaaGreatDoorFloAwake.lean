import Derived.Test.YtobijdfnafnodaaGreatDoorFloTwo
import Derived.RegionTactic
import Derived.Laws.BitsAllLaws
import Derived.ChangeSame
/- The document's answers for package flo: Num, cell, least, greatest, Less, Same. -/
namespace Go.Proofs.YtobijdfnafnodaaGreatDoor.Fl
set_option maxRecDepth 100000
open Go.ChangeShapes Go.WideShapes Go.ChangeAt Go.RowKit
set_option linter.unusedVariables false

theorem retB {a b : Bool} (h : a = b) : Ending.returned (.bool a) = .returned (.bool b) := by rw [h]
theorem run_cb (a : Int) (w : World) : (callFunc 102 #[.int .u64 (IntKind.u64.wrap a)]).run Tryz.prog w = .ok (.value (.float .f64 (cb a))) w := run_frombits _ w
theorem uw (x : Int) : IntKind.u64.wrap x = x % 18446744073709551616 := by simp [IntKind.wrap, IntKind.bits, IntKind.signed]
theorem cb_lt (a : Int) : cb a < 18446744073709551616 := by unfold cb; rw [uw]; omega
theorem ng_cb (a : Int) (h : -9223372036854775808 ≤ a ∧ a ≤ 9223372036854775807) : ng (cb a) = decide (a < 0) := by
  unfold ng cb
  rw [uw, Bool.eq_iff_iff, beq_iff_eq, decide_eq_true_eq]; omega
theorem wrap_cb (a : Int) (h : -9223372036854775808 ≤ a ∧ a ≤ 9223372036854775807) : wrap64 (cb a) = a := by
  unfold cb wrap64; rw [uw]; omega
theorem tld_cb (a : Int) (h : -9223372036854775808 ≤ a ∧ a ≤ 9223372036854775807) (hn : nanB (cb a) = false) : tld (cb a) = a := by
  rw [← tld_num hn]; exact wrap_cb a h

/-! ### Num, cell, Less, Same -/
theorem num_any (a : Int) (w : World) :
    Calls Tryz.prog 141 #[.int .i64 a] w fun e w' => e = .returned (.bool (!nanB (cb a))) ∧ w = w' := by
  have hd := run_cb a
  have H := Lib.hid (order_self (cb a))
  go_enter Tryz.func141, Tryz.ntmps141
  go_wp2
  go_ret
  exact ⟨retB H.out, rfl⟩
theorem rcell_num (x : Nat) (w : World) (h : nanB x = false) :
    Calls Tryz.prog 139 #[.float .f64 x] w fun e w' => e = .returned (.int .i64 (tld x)) ∧ w = w' := by
  have hd := run_tobits
  have H := Lib.hid (tld_num h)
  have t : (FloatKind.f64.format.order x x != some .eq) = false := by
    have := order_self x; rw [h] at this; rw [bne, show (FloatKind.f64.format.order x x == some .eq) = _ from this]; rfl
  go_enter Tryz.func139, Tryz.ntmps139
  go_wp2
  go_ret
  exact ⟨retI H.out, rfl⟩
theorem rcell_nan (x : Nat) (w : World) (h : nanB x = true) :
    Calls Tryz.prog 139 #[.float .f64 x] w fun e w' => e = .returned (.int .i64 (tld x)) ∧ w = w' := by
  have H := Lib.hid (tld_nan h)
  have t : (FloatKind.f64.format.order x x != some .eq) = true := by
    have := order_self x; rw [h] at this; rw [bne, show (FloatKind.f64.format.order x x == some .eq) = _ from this]; rfl
  go_enter Tryz.func139, Tryz.ntmps139
  go_wp2
  go_ret
  exact ⟨retI H.out, rfl⟩
theorem rcell_any (x : Nat) (w : World) :
    Calls Tryz.prog 139 #[.float .f64 x] w fun e w' => e = .returned (.int .i64 (tld x)) ∧ w = w' := by
  cases h : nanB x
  · exact rcell_num x w h
  · exact rcell_nan x w h
theorem less_any (a b : Int) (w : World) :
    Calls Tryz.prog 95 #[.int .i64 a, .int .i64 b] w fun e w' => e = .returned (.bool (ltB (cb a) (cb b))) ∧ w = w' := by
  go_enter Tryz.func95, Tryz.ntmps95
  go_wp2_with (go_at_call 131; refine (float_any _ _).mono ?_; rintro e w' ⟨rfl, rfl⟩)
  go_ret
  exact ⟨rfl, rfl⟩
theorem same_any (a b : Int) (w : World) :
    Calls Tryz.prog 96 #[.int .i64 a, .int .i64 b] w fun e w' => e = .returned (.bool (eqB (cb a) (cb b))) ∧ w = w' := by
  go_enter Tryz.func96, Tryz.ntmps96
  go_wp2_with (go_at_call 131; refine (float_any _ _).mono ?_; rintro e w' ⟨rfl, rfl⟩)
  go_ret
  exact ⟨rfl, rfl⟩
theorem rless_any (a b : Int) (w : World) :
    Calls Tryz.prog 108 #[.int .i64 a, .int .i64 b] w fun e w' => e = .returned (.bool (ltB (cb a) (cb b))) ∧ w = w' := by
  have hd := run_cb a
  have hd2 := run_cb b
  go_enter Tryz.func108, Tryz.ntmps108
  go_wp2
  go_ret
  exact ⟨rfl, rfl⟩
theorem rsame_any (a b : Int) (w : World) :
    Calls Tryz.prog 109 #[.int .i64 a, .int .i64 b] w fun e w' => e = .returned (.bool (eqB (cb a) (cb b))) ∧ w = w' := by
  have hd := run_cb a
  have hd2 := run_cb b
  go_enter Tryz.func109, Tryz.ntmps109
  go_wp2
  go_ret
  exact ⟨rfl, rfl⟩

/-! ### least, greatest -/
def lsI (a b : Int) : Int := if ltB (cb a) (cb b) then a else if ltB (cb b) (cb a) then b else if a < 0 then a else b
def gtI (a b : Int) : Int := if lsI a b = a then b else a
theorem minus_any (a : Int) (w : World) :
    Calls Tryz.prog 159 #[.int .i64 a] w fun e w' => e = .returned (.bool (decide (a < 0))) ∧ w = w' := by
  go_enter Tryz.func159, Tryz.ntmps159
  go_wp2
  go_ret
  exact ⟨rfl, rfl⟩
theorem least_any (a b : Int) (w : World) :
    Calls Tryz.prog 142 #[.int .i64 a, .int .i64 b] w fun e w' => e = .returned (.int .i64 (lsI a b)) ∧ w = w' := by
  have hd := run_cb a
  have hd2 := run_cb b
  cases h1 : ltB (cb a) (cb b)
  · have t1 : (FloatKind.f64.format.order (cb a) (cb b) == some .lt) = false := h1
    cases h2 : ltB (cb b) (cb a)
    · have t2 : (FloatKind.f64.format.order (cb a) (cb b) == some .gt) = false := (gt_lt (cb a) (cb b)).trans h2
      have H := Lib.hid (show (if a < 0 then a else b) = lsI a b by unfold lsI; rw [h1, h2]; rfl)
      clear h1 h2
      by_cases h3 : a < 0
      · go_enter Tryz.func142, Tryz.ntmps142
        go_wp2_with (go_at_call 159; refine (minus_any _ _).mono ?_; rintro e w' ⟨rfl, rfl⟩)
        go_ret
        exact ⟨retI (by rw [← H.out, if_pos (by omega)]), rfl⟩
      · go_enter Tryz.func142, Tryz.ntmps142
        go_wp2_with (go_at_call 159; refine (minus_any _ _).mono ?_; rintro e w' ⟨rfl, rfl⟩)
        go_ret
        exact ⟨retI (by rw [← H.out, if_neg (by omega)]), rfl⟩
    · have t2 : (FloatKind.f64.format.order (cb a) (cb b) == some .gt) = true := (gt_lt (cb a) (cb b)).trans h2
      have H := Lib.hid (show b = lsI a b by unfold lsI; rw [h1, h2]; rfl)
      clear h1 h2
      go_enter Tryz.func142, Tryz.ntmps142
      go_wp2
      go_ret
      exact ⟨retI H.out, rfl⟩
  · have t1 : (FloatKind.f64.format.order (cb a) (cb b) == some .lt) = true := h1
    have H := Lib.hid (show a = lsI a b by unfold lsI; rw [h1]; rfl)
    clear h1
    go_enter Tryz.func142, Tryz.ntmps142
    go_wp2
    go_ret
    exact ⟨retI H.out, rfl⟩
theorem greatest_any (a b : Int) (w : World) :
    Calls Tryz.prog 143 #[.int .i64 a, .int .i64 b] w fun e w' => e = .returned (.int .i64 (gtI a b)) ∧ w = w' := by
  by_cases h : lsI a b = a
  · have t : (lsI a b == a) = true := by simpa using h
    have H := Lib.hid (show b = gtI a b by unfold gtI; rw [if_pos h])
    clear h
    go_enter Tryz.func143, Tryz.ntmps143
    go_wp2_with (go_at_call 142; refine (least_any _ _ _).mono ?_; rintro e w' ⟨rfl, rfl⟩)
    go_ret
    exact ⟨retI H.out, rfl⟩
  · have t : (lsI a b == a) = false := by simpa using h
    have H := Lib.hid (show a = gtI a b by unfold gtI; rw [if_neg h])
    clear h
    go_enter Tryz.func143, Tryz.ntmps143
    go_wp2_with (go_at_call 142; refine (least_any _ _ _).mono ?_; rintro e w' ⟨rfl, rfl⟩)
    go_ret
    exact ⟨retI H.out, rfl⟩
theorem mn_ls (a b : Int) (ha : -9223372036854775808 ≤ a ∧ a ≤ 9223372036854775807) (hb : -9223372036854775808 ≤ b ∧ b ≤ 9223372036854775807) (hx : nanB (cb a) = false) (hy : nanB (cb b) = false) : tlo (mnB (cb a) (cb b)) = lsI a b := by
  have ea := tld_cb a ha hx
  have eb := tld_cb b hb hy
  have hng := ng_cb a ha
  have hg := gt_lt (cb a) (cb b)
  unfold mnB lsI
  rw [← hg]; unfold ltB
  have ho := order_num (cb a) (cb b) hx hy
  rw [ho]
  generalize compare (sv (cb a)) (sv (cb b)) = o
  cases o
  · exact ea
  · show tlo (some (if ng (cb a) then cb a else cb b)) = if a < 0 then a else b
    rw [hng]
    by_cases h : a < 0
    · simp only [h, decide_true, if_true]; exact ea
    · simp only [h, decide_false, if_false]; exact eb
  · exact eb
theorem mx_gt (a b : Int) (ha : -9223372036854775808 ≤ a ∧ a ≤ 9223372036854775807) (hb : -9223372036854775808 ≤ b ∧ b ≤ 9223372036854775807) (hx : nanB (cb a) = false) (hy : nanB (cb b) = false) : tlo (mxB (cb a) (cb b)) = gtI a b := by
  have ea := tld_cb a ha hx
  have eb := tld_cb b hb hy
  have hng := ng_cb a ha
  have hg := gt_lt (cb a) (cb b)
  unfold mxB gtI lsI
  rw [← hg]; unfold ltB
  have ho := order_num (cb a) (cb b) hx hy
  rw [ho]
  generalize compare (sv (cb a)) (sv (cb b)) = o
  cases o
  · show tld (cb b) = if (if true = true then a else _) = a then b else a
    rw [if_pos rfl, if_pos rfl]; exact eb
  · show tlo (some (if ng (cb a) then cb b else cb a)) = if (if a < 0 then a else b) = a then b else a
    rw [hng]
    by_cases h : a < 0
    · simp only [h, decide_true, if_true]; exact eb
    · simp only [h, decide_false, if_false]
      by_cases h2 : b = a
      · rw [if_pos h2]; rw [h2]; exact ea
      · rw [if_neg h2]; exact ea
  · show tld (cb a) = if b = a then b else a
    by_cases h2 : b = a
    · rw [if_pos h2]; rw [h2]; exact ea
    · rw [if_neg h2]; exact ea
end Go.Proofs.YtobijdfnafnodaaGreatDoor.Fl

/- The document's Two: its contract. -/
namespace Go.Proofs.YtobijdfnafnodaaGreatDoor.Fl
set_option maxRecDepth 100000
open Go.ChangeShapes Go.WideShapes Go.ChangeAt Go.RowKit
set_option linter.unusedVariables false

/-- A cell and a bool come back; but draws nothing has turned. -/
def RB (x : Int) (z : Bool) (w : World) (e : Ending) (w' : World) : Prop := e = .returned (.tuple #[.int .i64 x, .bool z]) ∧ ∃ n, w' = w.drewN n
theorem read_nanD {x : Nat} (h : nanB x = true) : ∃ s t, Ieee.double.read x = .nan s t := ⟨_, _, read_nan x (by simpa [nanB] using h)⟩
theorem twF_nan (op : Int) (x y : Nat) (h : nanB x = true ∨ nanB y = true) : twF op x y = none := by
  have ho := order_nan x y h
  unfold twF
  split
  · unfold Ieee.Format.add
    rcases h with h | h
    · obtain ⟨s, t, e⟩ := read_nanD h; rw [e]; rfl
    · obtain ⟨s, t, e⟩ := read_nanD h; rw [e]; cases Ieee.double.read x <;> rfl
  split
  · unfold Ieee.Format.sub
    rcases h with h | h
    · obtain ⟨s, t, e⟩ := read_nanD h; rw [e]; rfl
    · obtain ⟨s, t, e⟩ := read_nanD h; rw [e]; cases Ieee.double.read x <;> rfl
  split
  · unfold Ieee.Format.mul
    rcases h with h | h
    · obtain ⟨s, t, e⟩ := read_nanD h; rw [e]; rfl
    · obtain ⟨s, t, e⟩ := read_nanD h; rw [e]; cases Ieee.double.read x <;> rfl
  split
  · unfold Ieee.Format.div
    rcases h with h | h
    · obtain ⟨s, t, e⟩ := read_nanD h; rw [e]; rfl
    · obtain ⟨s, t, e⟩ := read_nanD h; rw [e]; cases Ieee.double.read x <;> rfl
  split
  · unfold mnB; rw [ho]
  · unfold mxB; rw [ho]
theorem twI_nan (op a b : Int) (hop : twB op = true) (h : nanB (cb a) = true ∨ nanB (cb b) = true) : 9221120237041090560 = twI op a b := by
  unfold twI; rw [hop, if_pos rfl, twF_nan op _ _ h]; rfl
theorem rtwo_no (op a b : Int) (w : World) (h : twB op = false) :
    Calls Tryz.prog 110 #[.int .u8 op, .int .i64 a, .int .i64 b] w (RB 0 false w) := by
  simp only [twB, Bool.or_eq_false_iff] at h
  obtain ⟨⟨⟨⟨⟨h1, h2⟩, h3⟩, h4⟩, h5⟩, h6⟩ := h
  go_enter Tryz.func110, Tryz.ntmps110
  go_wp2
  go_ret2
  exact ⟨rfl, 0, rfl⟩
theorem rtwo_43 (a b : Int) (w : World) (hx : nanB (cb a) = false) (hy : nanB (cb b) = false) :
    Calls Tryz.prog 110 #[.int .u8 43, .int .i64 a, .int .i64 b] w (RB (twI 43 a b) true w) := by
  have hd := run_cb a
  have hd2 := run_cb b
  cases h : Ieee.double.add (cb a) (cb b) with
  | some r =>
    have hf := fun (w : World) => run_float_arith (P := Tryz.prog) w .add 91 .f64 (cb a) (cb b) r h
    have H := Lib.hid (show tld r = twI 43 a b by show _ = tlo (Ieee.double.add (cb a) (cb b)); rw [h]; rfl)
    clear h
    go_enter Tryz.func110, Tryz.ntmps110
    go_wp2_with (first | (go_at_call 141; refine (num_any _ _).mono ?_; rintro e w' ⟨rfl, rfl⟩) | (go_at_call 139; refine (rcell_any _ _).mono ?_; rintro e w' ⟨rfl, rfl⟩))
    go_ret2
    exact ⟨retIB H.out rfl, 0, rfl⟩
  | none =>
    have hf := fun (w : World) => run_arith_nan (P := Tryz.prog) .add 91 (cb a) (cb b) (.inl rfl) h w
    have H := Lib.hid (show ∀ r, nanB r = true → tld r = twI 43 a b by intro r hr; show _ = tlo (Ieee.double.add (cb a) (cb b)); rw [h]; exact (tld_nan hr).symm)
    clear h
    go_enter Tryz.func110, Tryz.ntmps110
    go_wp2_with (first | (go_at_call 141; refine (num_any _ _).mono ?_; rintro e w' ⟨rfl, rfl⟩) | (go_at_call 139; refine (rcell_any _ _).mono ?_; rintro e w' ⟨rfl, rfl⟩))
    go_ret2
    exact ⟨retIB (H.out _ (nanOf_bits _ _ _).1) rfl, 1, rfl⟩
theorem rtwo_45 (a b : Int) (w : World) (hx : nanB (cb a) = false) (hy : nanB (cb b) = false) :
    Calls Tryz.prog 110 #[.int .u8 45, .int .i64 a, .int .i64 b] w (RB (twI 45 a b) true w) := by
  have hd := run_cb a
  have hd2 := run_cb b
  cases h : Ieee.double.sub (cb a) (cb b) with
  | some r =>
    have hf := fun (w : World) => run_float_arith (P := Tryz.prog) w .sub 91 .f64 (cb a) (cb b) r h
    have H := Lib.hid (show tld r = twI 45 a b by show _ = tlo (Ieee.double.sub (cb a) (cb b)); rw [h]; rfl)
    clear h
    go_enter Tryz.func110, Tryz.ntmps110
    go_wp2_with (first | (go_at_call 141; refine (num_any _ _).mono ?_; rintro e w' ⟨rfl, rfl⟩) | (go_at_call 139; refine (rcell_any _ _).mono ?_; rintro e w' ⟨rfl, rfl⟩))
    go_ret2
    exact ⟨retIB H.out rfl, 0, rfl⟩
  | none =>
    have hf := fun (w : World) => run_arith_nan (P := Tryz.prog) .sub 91 (cb a) (cb b) (.inr (.inl rfl)) h w
    have H := Lib.hid (show ∀ r, nanB r = true → tld r = twI 45 a b by intro r hr; show _ = tlo (Ieee.double.sub (cb a) (cb b)); rw [h]; exact (tld_nan hr).symm)
    clear h
    go_enter Tryz.func110, Tryz.ntmps110
    go_wp2_with (first | (go_at_call 141; refine (num_any _ _).mono ?_; rintro e w' ⟨rfl, rfl⟩) | (go_at_call 139; refine (rcell_any _ _).mono ?_; rintro e w' ⟨rfl, rfl⟩))
    go_ret2
    exact ⟨retIB (H.out _ (nanOf_bits _ _ _).1) rfl, 1, rfl⟩
theorem rtwo_42 (a b : Int) (w : World) (hx : nanB (cb a) = false) (hy : nanB (cb b) = false) :
    Calls Tryz.prog 110 #[.int .u8 42, .int .i64 a, .int .i64 b] w (RB (twI 42 a b) true w) := by
  have hd := run_cb a
  have hd2 := run_cb b
  cases h : Ieee.double.mul (cb a) (cb b) with
  | some r =>
    have hf := fun (w : World) => run_float_arith (P := Tryz.prog) w .mul 91 .f64 (cb a) (cb b) r h
    have H := Lib.hid (show tld r = twI 42 a b by show _ = tlo (Ieee.double.mul (cb a) (cb b)); rw [h]; rfl)
    clear h
    go_enter Tryz.func110, Tryz.ntmps110
    go_wp2_with (first | (go_at_call 141; refine (num_any _ _).mono ?_; rintro e w' ⟨rfl, rfl⟩) | (go_at_call 139; refine (rcell_any _ _).mono ?_; rintro e w' ⟨rfl, rfl⟩))
    go_ret2
    exact ⟨retIB H.out rfl, 0, rfl⟩
  | none =>
    have hf := fun (w : World) => run_arith_nan (P := Tryz.prog) .mul 91 (cb a) (cb b) (.inr (.inr (.inl rfl))) h w
    have H := Lib.hid (show ∀ r, nanB r = true → tld r = twI 42 a b by intro r hr; show _ = tlo (Ieee.double.mul (cb a) (cb b)); rw [h]; exact (tld_nan hr).symm)
    clear h
    go_enter Tryz.func110, Tryz.ntmps110
    go_wp2_with (first | (go_at_call 141; refine (num_any _ _).mono ?_; rintro e w' ⟨rfl, rfl⟩) | (go_at_call 139; refine (rcell_any _ _).mono ?_; rintro e w' ⟨rfl, rfl⟩))
    go_ret2
    exact ⟨retIB (H.out _ (nanOf_bits _ _ _).1) rfl, 1, rfl⟩
theorem rtwo_47 (a b : Int) (w : World) (hx : nanB (cb a) = false) (hy : nanB (cb b) = false) :
    Calls Tryz.prog 110 #[.int .u8 47, .int .i64 a, .int .i64 b] w (RB (twI 47 a b) true w) := by
  have hd := run_cb a
  have hd2 := run_cb b
  cases h : Ieee.double.div (cb a) (cb b) with
  | some r =>
    have hf := fun (w : World) => run_float_arith (P := Tryz.prog) w .quo 91 .f64 (cb a) (cb b) r h
    have H := Lib.hid (show tld r = twI 47 a b by show _ = tlo (Ieee.double.div (cb a) (cb b)); rw [h]; rfl)
    clear h
    go_enter Tryz.func110, Tryz.ntmps110
    go_wp2_with (first | (go_at_call 141; refine (num_any _ _).mono ?_; rintro e w' ⟨rfl, rfl⟩) | (go_at_call 139; refine (rcell_any _ _).mono ?_; rintro e w' ⟨rfl, rfl⟩))
    go_ret2
    exact ⟨retIB H.out rfl, 0, rfl⟩
  | none =>
    have hf := fun (w : World) => run_arith_nan (P := Tryz.prog) .quo 91 (cb a) (cb b) (.inr (.inr (.inr rfl))) h w
    have H := Lib.hid (show ∀ r, nanB r = true → tld r = twI 47 a b by intro r hr; show _ = tlo (Ieee.double.div (cb a) (cb b)); rw [h]; exact (tld_nan hr).symm)
    clear h
    go_enter Tryz.func110, Tryz.ntmps110
    go_wp2_with (first | (go_at_call 141; refine (num_any _ _).mono ?_; rintro e w' ⟨rfl, rfl⟩) | (go_at_call 139; refine (rcell_any _ _).mono ?_; rintro e w' ⟨rfl, rfl⟩))
    go_ret2
    exact ⟨retIB (H.out _ (nanOf_bits _ _ _).1) rfl, 1, rfl⟩
theorem rtwo_109 (a b : Int) (w : World) (ha : -9223372036854775808 ≤ a ∧ a ≤ 9223372036854775807) (hb : -9223372036854775808 ≤ b ∧ b ≤ 9223372036854775807) (hx : nanB (cb a) = false) (hy : nanB (cb b) = false) :
    Calls Tryz.prog 110 #[.int .u8 109, .int .i64 a, .int .i64 b] w (RB (twI 109 a b) true w) := by
  have hd := run_cb a
  have hd2 := run_cb b
  have H := Lib.hid (show lsI a b = twI 109 a b from (mn_ls a b ha hb hx hy).symm)
  go_enter Tryz.func110, Tryz.ntmps110
  go_wp2_with (first | (go_at_call 141; refine (num_any _ _).mono ?_; rintro e w' ⟨rfl, rfl⟩) | (go_at_call 142; refine (least_any _ _ _).mono ?_; rintro e w' ⟨rfl, rfl⟩))
  go_ret2
  exact ⟨retIB H.out rfl, 0, rfl⟩
theorem rtwo_77 (a b : Int) (w : World) (ha : -9223372036854775808 ≤ a ∧ a ≤ 9223372036854775807) (hb : -9223372036854775808 ≤ b ∧ b ≤ 9223372036854775807) (hx : nanB (cb a) = false) (hy : nanB (cb b) = false) :
    Calls Tryz.prog 110 #[.int .u8 77, .int .i64 a, .int .i64 b] w (RB (twI 77 a b) true w) := by
  have hd := run_cb a
  have hd2 := run_cb b
  have H := Lib.hid (show gtI a b = twI 77 a b from (mx_gt a b ha hb hx hy).symm)
  go_enter Tryz.func110, Tryz.ntmps110
  go_wp2_with (first | (go_at_call 141; refine (num_any _ _).mono ?_; rintro e w' ⟨rfl, rfl⟩) | (go_at_call 143; refine (greatest_any _ _ _).mono ?_; rintro e w' ⟨rfl, rfl⟩))
  go_ret2
  exact ⟨retIB H.out rfl, 0, rfl⟩
theorem rtwo_nan (op a b : Int) (w : World) (h : twB op = true) (hn : nanB (cb a) = true ∨ nanB (cb b) = true) :
    Calls Tryz.prog 110 #[.int .u8 op, .int .i64 a, .int .i64 b] w (RB (twI op a b) true w) := by
  have H := Lib.hid (twI_nan op a b h hn)
  simp only [twB, Bool.or_eq_true, beq_iff_eq] at h
  cases hx : nanB (cb a)
  · have hy : nanB (cb b) = true := by rw [hx] at hn; simpa using hn
    clear hn
    rcases h with ((((rfl | rfl) | rfl) | rfl) | rfl) | rfl
    all_goals
      go_enter Tryz.func110, Tryz.ntmps110
      go_wp2_with (go_at_call 141; refine (num_any _ _).mono ?_; rintro e w' ⟨rfl, rfl⟩)
      go_ret2
      exact ⟨retIB H.out rfl, 0, rfl⟩
  · clear hn
    rcases h with ((((rfl | rfl) | rfl) | rfl) | rfl) | rfl
    all_goals
      go_enter Tryz.func110, Tryz.ntmps110
      go_wp2_with (go_at_call 141; refine (num_any _ _).mono ?_; rintro e w' ⟨rfl, rfl⟩)
      go_ret2
      exact ⟨retIB H.out rfl, 0, rfl⟩
theorem rtwo_any (op a b : Int) (w : World) (ha : -9223372036854775808 ≤ a ∧ a ≤ 9223372036854775807) (hb : -9223372036854775808 ≤ b ∧ b ≤ 9223372036854775807) :
    Calls Tryz.prog 110 #[.int .u8 op, .int .i64 a, .int .i64 b] w (RB (twI op a b) (twB op) w) := by
  cases h : twB op
  · have e : twI op a b = 0 := by unfold twI; rw [h]; rfl
    rw [e]; exact rtwo_no op a b w h
  · by_cases hn : nanB (cb a) = true ∨ nanB (cb b) = true
    · exact rtwo_nan op a b w h hn
    · have hx : nanB (cb a) = false := by simpa using fun k => hn (.inl k)
      have hy : nanB (cb b) = false := by simpa using fun k => hn (.inr k)
      simp only [twB, Bool.or_eq_true, beq_iff_eq] at h
      rcases h with ((((rfl | rfl) | rfl) | rfl) | rfl) | rfl
      · exact rtwo_43 a b w hx hy
      · exact rtwo_45 a b w hx hy
      · exact rtwo_42 a b w hx hy
      · exact rtwo_47 a b w hx hy
      · exact rtwo_109 a b w ha hb hx hy
      · exact rtwo_77 a b w ha hb hx hy
end Go.Proofs.YtobijdfnafnodaaGreatDoor.Fl

/- flo.turned and flo.ofOne: their closures and the map. -/
namespace Go.Proofs.YtobijdfnafnodaaGreatDoor.Fl
set_option maxRecDepth 100000
open Go.ChangeShapes Go.WideShapes Go.ChangeAt Go.RowKit
set_option linter.unusedVariables false

theorem turned_any (f : FuncId) (w : World) :
    Calls Tryz.prog 169 #[.func (Fn.func f) #[] #[]] w fun e w' => e = .returned (.func (Fn.func 178) #[] #[.pointer (some ⟨w.heap.size, 0, none⟩)]) ∧ w.alloc (.cells #[.func (Fn.func f) #[] #[]] 125) = w' := by
  go_enter Tryz.func169, Tryz.ntmps169
  go_wp2
  go_ret
  exact ⟨rfl, rfl⟩
theorem xor_any (x : Nat) (w : World) :
    Calls Tryz.prog 170 #[.int .u64 x] w fun e w' => e = .returned (.int .u64 (bits .xor .u64 x 9223372036854775808)) ∧ w = w' := by
  go_enter Tryz.func170, Tryz.ntmps170
  go_wp2
  go_ret
  exact ⟨rfl, rfl⟩
theorem andnot_any (x : Nat) (w : World) :
    Calls Tryz.prog 171 #[.int .u64 x] w fun e w' => e = .returned (.int .u64 (bits .andNot .u64 x 9223372036854775808)) ∧ w = w' := by
  go_enter Tryz.func171, Tryz.ntmps171
  go_wp2
  go_ret
  exact ⟨rfl, rfl⟩
/-! ### signs turned, signs away -/
def flipB (x : Nat) : Nat := Ieee.double.word (!ng x) (rg x)
theorem flip_xor (x : Nat) (hx : x < 18446744073709551616) : (x ^^^ 9223372036854775808 : Nat) = flipB x := by
  have h1 := Nat.xor_mod_two_pow (a := x) (b := 9223372036854775808) (n := 63)
  have h2 := Nat.xor_div_two_pow (a := x) (b := 9223372036854775808) (n := 63)
  rw [show (2 : Nat) ^ 63 = 9223372036854775808 by decide] at h1 h2
  rw [Nat.mod_self, Nat.xor_zero] at h1
  rw [show 9223372036854775808 / 9223372036854775808 = 1 by decide] at h2
  unfold flipB; rw [word_eq]; unfold ng rg
  by_cases h : x / 9223372036854775808 = 0
  · rw [h] at h2 ⊢; rw [show (0 ^^^ 1 : Nat) = 1 by decide] at h2; simp; omega
  · have h' : x / 9223372036854775808 = 1 := by omega
    rw [h'] at h2 ⊢; rw [show (1 ^^^ 1 : Nat) = 0 by decide] at h2; simp; omega
theorem xor_flip (x : Nat) (hx : x < 18446744073709551616) : bits .xor .u64 x 9223372036854775808 = (flipB x : Int) := by
  have := u64_xor_nat x 9223372036854775808 hx (by omega)
  rw [← flip_xor x hx]; exact this
theorem and_low (x : Nat) : (x &&& 9223372036854775807 : Nat) = rg x := by
  have := Nat.and_two_pow_sub_one_eq_mod x 63
  exact this
theorem andnot_abs (x : Nat) (hx : x < 18446744073709551616) : bits .andNot .u64 x 9223372036854775808 = (rg x : Int) := by
  have := u64_andNot_nat x 9223372036854775808 hx (by omega)
  rw [← and_low x]; exact this
theorem and_abs (x : Nat) (hx : x < 18446744073709551616) : bits .and .u64 x 9223372036854775807 = (rg x : Int) := by
  have := u64_and_nat x 9223372036854775807 hx (by omega)
  rw [← and_low x]; exact this
theorem rg_lt (x : Nat) : rg x < 9223372036854775808 := Nat.mod_lt _ (by omega)
theorem rg_rg (x : Nat) : rg (rg x) = rg x := Nat.mod_mod _ _
theorem rg_flip (x : Nat) : rg (flipB x) = rg x := rg_word _ _ (rg_lt x)
theorem ng_flip (x : Nat) : ng (flipB x) = !ng x := ng_word _ _ (rg_lt x)
theorem nan_flip (x : Nat) : nanB (flipB x) = nanB x := by unfold nanB; rw [rg_flip]
theorem nan_rg (x : Nat) : nanB (rg x) = nanB x := by unfold nanB; rw [rg_rg]
theorem flip_lt (x : Nat) : flipB x < 18446744073709551616 := by
  have := rg_lt x
  unfold flipB; rw [word_eq]; cases ng x <;> simp <;> omega
theorem flip_flip (x : Nat) (hx : x < 18446744073709551616) : flipB (flipB x) = x := by
  have h := word_self x hx
  unfold flipB at *
  rw [ng_word _ _ (rg_lt x), rg_word _ _ (rg_lt x), Bool.not_not]; exact h

/-! ### the closures -/
theorem turn_call (x b : Nat) (w : World) (hx : x < 18446744073709551616) (hc : w.cell? ⟨b, 0, none⟩ = some (.func (Fn.func 170) #[] #[])) :
    Calls Tryz.prog 178 #[.float .f64 x, .pointer (some ⟨b, 0, none⟩)] w (Flt (some (flipB x)) w) := by
  have hd := run_tobits
  have hd2 := run_frombits
  have H := Lib.hid (xor_flip x hx)
  go_enter Tryz.func178, Tryz.ntmps178
  go_wp2
  go_quiet ((go_at_call 170; exact Calls.quiet_of_same ((xor_any _ _).mono fun _ _ h => ⟨h.1, h.2.symm⟩)))
  go_wp2
  go_ret
  exact ⟨_, rfl, by rw [H.out]; rfl, _, rfl⟩
theorem abs_call (x b : Nat) (w : World) (hx : x < 18446744073709551616) (hc : w.cell? ⟨b, 0, none⟩ = some (.func (Fn.func 171) #[] #[])) :
    Calls Tryz.prog 178 #[.float .f64 x, .pointer (some ⟨b, 0, none⟩)] w (Flt (some (rg x)) w) := by
  have hd := run_tobits
  have hd2 := run_frombits
  have H := Lib.hid (andnot_abs x hx)
  go_enter Tryz.func178, Tryz.ntmps178
  go_wp2
  go_quiet ((go_at_call 171; exact Calls.quiet_of_same ((andnot_any _ _).mono fun _ _ h => ⟨h.1, h.2.symm⟩)))
  go_wp2
  go_ret
  exact ⟨_, rfl, by rw [H.out]; rfl, _, rfl⟩
theorem sqrt_any (x : Nat) (w : World) :
    Calls Tryz.prog 157 #[.float .f64 x] w (Flt (Ieee.double.sqrt x) w) := by
  cases h : Ieee.double.sqrt x with
  | some r =>
    have hd := run_sqrt_ok x r h
    clear h
    go_enter Tryz.func157, Tryz.ntmps157
    go_wp2
    go_ret
    exact flt_some 0 rfl
  | none =>
    have hd := run_sqrt_nan x h
    clear h
    go_enter Tryz.func157, Tryz.ntmps157
    go_wp2
    go_ret
    exact flt_nan 1 rfl (nanOf_bits _ _ _).1
def floB (x : Nat) : Option Nat := if nanB x then none else some (flB x)
theorem floor_any (x : Nat) (hx : x < 18446744073709551616) (w : World) :
    Calls Tryz.prog 158 #[.float .f64 x] w (Flt (floB x) w) := by
  cases h : nanB x
  · have e : floB x = some (flB x) := by unfold floB; rw [h]; rfl
    rw [e]
    have hd := run_floor_ok x h
    clear h e
    go_enter Tryz.func158, Tryz.ntmps158
    go_wp2
    go_ret
    exact flt_some 0 rfl
  · have e : floB x = none := by unfold floB; rw [h]; rfl
    rw [e]
    obtain ⟨r, w1, hrun, hr, hlt, n, rfl⟩ := run_floor_nan x hx h w
    clear h e
    go_enter Tryz.func158, Tryz.ntmps158
    go_wp2
    go_ret
    exact flt_nan n rfl hr
theorem csqrt_any (x : Nat) (w : World) :
    Calls Tryz.prog 172 #[.float .f64 x] w (Flt (Ieee.double.sqrt x) w) := by
  go_enter Tryz.func172, Tryz.ntmps172
  go_wp2_with (go_at_call 157; refine (sqrt_any _ _).mono ?_; rintro e w' ⟨r, rfl, hr, n, rfl⟩; have HR := Lib.hid hr; clear hr)
  go_ret
  exact ⟨r, rfl, HR.out, n, rfl⟩
theorem cfloor_any (x : Nat) (hx : x < 18446744073709551616) (w : World) :
    Calls Tryz.prog 173 #[.float .f64 x] w (Flt (floB x) w) := by
  go_enter Tryz.func173, Tryz.ntmps173
  go_wp2_with (go_at_call 158; refine (floor_any _ hx _).mono ?_; rintro e w' ⟨r, rfl, hr, n, rfl⟩; have HR := Lib.hid hr; clear hr)
  go_ret
  exact ⟨r, rfl, HR.out, n, rfl⟩

/-! ### the map -/
theorem set_under (W : World) (b : Nat) (hb : b < W.heap.size) (o p : Obj) : { (W.alloc o) with heap := (W.alloc o).heap.setIfInBounds b p } = ({ W with heap := W.heap.setIfInBounds b p } : World).alloc o := by
  have e : (W.alloc o).heap = W.heap.push o := rfl
  have e2 : (W.heap.push o).setIfInBounds b p = (W.heap.setIfInBounds b p).push o := by
    apply Array.ext_getElem?
    intro i
    rw [Array.getElem?_setIfInBounds, Array.getElem?_push, Array.getElem?_push, Array.size_push, Array.size_setIfInBounds, Array.getElem?_setIfInBounds]
    by_cases h : b = i
    · subst h; simp [hb, Nat.ne_of_lt hb, Nat.lt_succ_of_lt hb]
    · rw [if_neg h, if_neg h]
  rw [e, e2]; rfl
theorem run_insert_at {P : Program} {T K E : TypeId} (hT : P.underlying T = some (.map K E)) (hK : P.underlying K = some (.int .u8)) (es : Array MapEntry) (clock : Nat) (k : Int) (v : Value)
    (hk : Instr.findNow (.int .u8) (.int .u8 k) es.toList 0 = some none) (w : World) (b : Nat) (hb : w.heap[b]? = some (.map es clock)) :
    (Instr.mapUpdate T (.map (some b)) (.int .u8 k) v).run P w = .ok () { w with heap := w.heap.setIfInBounds b (.map (es.push { key := .int .u8 k, val := v, born := clock }) (clock + 1)) } := by
  have hik : MapKept.IsKey (.int .u8) (.int .u8 k) := rfl
  simp [Instr.mapUpdate, run_underlying hT, MapKept.run_getObj_map hb, MapKept.run_checkKey hK hik, MapKept.run_findKey hK hk, MapKept.run_setObj_map _ hb, Result.andThen]
theorem heap_1 (w : World) (o p : Obj) : ((w.alloc o).alloc p).heap[w.heap.size]? = some o := by
  rw [(MapKept.heap_alloc (w.alloc o) p).2 _ (by rw [show (w.alloc o).heap.size = w.heap.size + 1 from by simp]; omega)]; exact (MapKept.heap_alloc w o).1
theorem heap_2 (w : World) (o p q : Obj) : (((w.alloc o).alloc p).alloc q).heap[w.heap.size]? = some o := by
  rw [(MapKept.heap_alloc ((w.alloc o).alloc p) q).2 _ (by rw [show ((w.alloc o).alloc p).heap.size = w.heap.size + 1 + 1 from by simp]; omega)]; exact heap_1 w o p
theorem run_insert1 {P : Program} {T K E : TypeId} (hT : P.underlying T = some (.map K E)) (hK : P.underlying K = some (.int .u8)) (es : Array MapEntry) (clock : Nat) (k : Int) (v : Value)
    (hk : Instr.findNow (.int .u8) (.int .u8 k) es.toList 0 = some none) (w : World) (o : Obj) :
    (Instr.mapUpdate T (.map (some w.heap.size)) (.int .u8 k) v).run P ((w.alloc (.map es clock)).alloc o) = .ok () ((w.alloc (.map (es.push { key := .int .u8 k, val := v, born := clock }) (clock + 1))).alloc o) := by
  rw [run_insert_at hT hK es clock k v hk _ _ (heap_1 w _ o), set_under _ _ (by simp), set_last]
theorem run_insert2 {P : Program} {T K E : TypeId} (hT : P.underlying T = some (.map K E)) (hK : P.underlying K = some (.int .u8)) (es : Array MapEntry) (clock : Nat) (k : Int) (v : Value)
    (hk : Instr.findNow (.int .u8) (.int .u8 k) es.toList 0 = some none) (w : World) (o p : Obj) :
    (Instr.mapUpdate T (.map (some w.heap.size)) (.int .u8 k) v).run P (((w.alloc (.map es clock)).alloc o).alloc p) = .ok () (((w.alloc (.map (es.push { key := .int .u8 k, val := v, born := clock }) (clock + 1))).alloc o).alloc p) := by
  rw [run_insert_at hT hK es clock k v hk _ _ (heap_2 w _ o p), set_under _ _ (by simp; omega), set_under _ _ (by simp), set_last]
end Go.Proofs.YtobijdfnafnodaaGreatDoor.Fl

/- flo.One and the document's One: their contracts. -/
namespace Go.Proofs.YtobijdfnafnodaaGreatDoor.Fl
set_option maxRecDepth 100000
open Go.ChangeShapes Go.WideShapes Go.ChangeAt Go.RowKit
set_option linter.unusedVariables false

def on0 (b : Nat) : MapEntry := { key := .int .u8 110, val := .func (Fn.func 178) #[] #[.pointer (some ⟨b + 1, 0, none⟩)], born := 0 }
def on1 (b : Nat) : MapEntry := { key := .int .u8 97, val := .func (Fn.func 178) #[] #[.pointer (some ⟨b + 1 + 1, 0, none⟩)], born := 1 }
def on2 : MapEntry := { key := .int .u8 115, val := .func (Fn.func 172) #[] #[], born := 2 }
def on3 : MapEntry := { key := .int .u8 102, val := .func (Fn.func 173) #[] #[], born := 3 }
def oneES (b : Nat) : Array MapEntry := #[on0 b, on1 b, on2, on3]
def cel1 : Obj := .cells #[.func (Fn.func 170) #[] #[]] 125
def cel2 : Obj := .cells #[.func (Fn.func 171) #[] #[]] 125
theorem turned_1 (w : World) :
    Calls Tryz.prog 169 #[.func (Fn.func 170) #[] #[]] w fun e w' => e = .returned (.func (Fn.func 178) #[] #[.pointer (some ⟨w.heap.size, 0, none⟩)]) ∧ w.alloc cel1 = w' := turned_any _ w
theorem turned_2 (w : World) :
    Calls Tryz.prog 169 #[.func (Fn.func 171) #[] #[]] w fun e w' => e = .returned (.func (Fn.func 178) #[] #[.pointer (some ⟨w.heap.size, 0, none⟩)]) ∧ w.alloc cel2 = w' := turned_any _ w
def oneW (w : World) : World := ((w.alloc (.map (oneES w.heap.size) 4)).alloc cel1).alloc cel2
theorem ofone_any (w : World) :
    Calls Tryz.prog 152 #[] w fun e w' => e = .returned (.map (some w.heap.size)) ∧ oneW w = w' := by
  have hmm := @run_makeMap Tryz.prog
  have h0 : ∀ w : World, (Instr.mapUpdate 117 (.map (some w.heap.size)) (.int .u8 110) (.func (Fn.func 178) #[] #[.pointer (some ⟨w.heap.size + 1, 0, none⟩)])).run Tryz.prog ((w.alloc (.map #[] 0)).alloc cel1) = .ok () ((w.alloc (.map #[on0 w.heap.size] 1)).alloc cel1) := fun w => run_insert1 Tryz.underlying117 Tryz.underlying5 #[] 0 110 _ rfl w cel1
  have h1 : ∀ w : World, (Instr.mapUpdate 117 (.map (some w.heap.size)) (.int .u8 97) (.func (Fn.func 178) #[] #[.pointer (some ⟨w.heap.size + 1 + 1, 0, none⟩)])).run Tryz.prog (((w.alloc (.map #[on0 w.heap.size] 1)).alloc cel1).alloc cel2) = .ok () (((w.alloc (.map #[on0 w.heap.size, on1 w.heap.size] 2)).alloc cel1).alloc cel2) := fun w => run_insert2 Tryz.underlying117 Tryz.underlying5 #[on0 w.heap.size] 1 97 _ rfl w cel1 cel2
  have h2 : ∀ w : World, (Instr.mapUpdate 117 (.map (some w.heap.size)) (.int .u8 115) (.func (Fn.func 172) #[] #[])).run Tryz.prog (((w.alloc (.map #[on0 w.heap.size, on1 w.heap.size] 2)).alloc cel1).alloc cel2) = .ok () (((w.alloc (.map #[on0 w.heap.size, on1 w.heap.size, on2] 3)).alloc cel1).alloc cel2) := fun w => run_insert2 Tryz.underlying117 Tryz.underlying5 #[on0 w.heap.size, on1 w.heap.size] 2 115 _ rfl w cel1 cel2
  have h3 : ∀ w : World, (Instr.mapUpdate 117 (.map (some w.heap.size)) (.int .u8 102) (.func (Fn.func 173) #[] #[])).run Tryz.prog (((w.alloc (.map #[on0 w.heap.size, on1 w.heap.size, on2] 3)).alloc cel1).alloc cel2) = .ok () (((w.alloc (.map #[on0 w.heap.size, on1 w.heap.size, on2, on3] 4)).alloc cel1).alloc cel2) := fun w => run_insert2 Tryz.underlying117 Tryz.underlying5 #[on0 w.heap.size, on1 w.heap.size, on2] 3 102 _ rfl w cel1 cel2
  go_enter Tryz.func152, Tryz.ntmps152
  go_wp2_with (first | (go_at_call 169; refine (turned_1 _).mono ?_; rintro e w' ⟨rfl, rfl⟩) | (go_at_call 169; refine (turned_2 _).mono ?_; rintro e w' ⟨rfl, rfl⟩))
  go_ret
  exact ⟨rfl, rfl⟩

def onB (op : Int) : Bool := op == 110 || op == 97 || op == 115 || op == 102
def onF (op : Int) (x : Nat) : Option Nat := if op = 110 then some (flipB x) else if op = 97 then some (rg x) else if op = 115 then Ieee.double.sqrt x else floB x
def onI (op a : Int) : Int := if onB op then tlo (onF op (cb a)) else 0
theorem onI_110 (a : Int) : tlo (some (flipB (cb a))) = onI 110 a := by
  unfold onI onF
  rw [show onB 110 = true from by decide, if_pos rfl, if_pos rfl]
theorem onI_97 (a : Int) : tlo (some (rg (cb a))) = onI 97 a := by
  unfold onI onF
  rw [show onB 97 = true from by decide, if_pos rfl, if_neg (by decide), if_pos rfl]
theorem onI_115 (a : Int) : tlo (Ieee.double.sqrt (cb a)) = onI 115 a := by
  unfold onI onF
  rw [show onB 115 = true from by decide, if_pos rfl, if_neg (by decide), if_neg (by decide), if_pos rfl]
theorem onI_102 (a : Int) : tlo (floB (cb a)) = onI 102 a := by
  unfold onI onF
  rw [show onB 102 = true from by decide, if_pos rfl, if_neg (by decide), if_neg (by decide), if_neg (by decide)]
theorem oneW_cell1 (w : World) : (oneW w).cell? ⟨w.heap.size + 1, 0, none⟩ = some (.func (Fn.func 170) #[] #[]) := by
  unfold oneW cel1; go_simp
theorem oneW_cell2 (w : World) : (oneW w).cell? ⟨w.heap.size + 1 + 1, 0, none⟩ = some (.func (Fn.func 171) #[] #[]) := by
  unfold oneW cel2; go_simp
theorem oneW_below (w : World) : Below w.heap.size w (oneW w) := (((Below.refl _ _).alloc (Nat.le_refl _) _).alloc (by simp) _).alloc (by simp; omega) _
theorem one_110 (a : Int) (w : World) :
    Calls Tryz.prog 130 #[.int .u8 110, .int .i64 a] w (IB (onI 110 a) (onB 110) w) := by
  have hl := run_find (P := Tryz.prog) Tryz.underlying117 Tryz.underlying5 (oneES w.heap.size) 4 110 (.func (Fn.func 178) #[] #[.pointer (some ⟨w.heap.size + 1, 0, none⟩)]) 0 rfl w.heap.size (oneW w) (heap_2 w _ _ _)
  go_enter Tryz.func130, Tryz.ntmps130
  go_wp2_with (first | (go_at_call 152; refine (ofone_any _).mono ?_; rintro e w' ⟨rfl, rfl⟩) | (go_at_call 131; refine (float_any _ _).mono ?_; rintro e w' ⟨rfl, rfl⟩) | (go_at_call 178; refine (turn_call _ _ _ (cb_lt a) (oneW_cell1 w)).mono ?_; rintro e w' ⟨r, rfl, hr, n, rfl⟩; have HR := Lib.hid hr; clear hr) | (go_at_call 132; refine (told_any _ _).mono ?_; rintro e w' ⟨rfl, rfl⟩))
  go_ret2
  exact ⟨retIB (HR.out.trans (onI_110 a)) rfl, below_drewN (oneW_below w) _⟩
theorem one_97 (a : Int) (w : World) :
    Calls Tryz.prog 130 #[.int .u8 97, .int .i64 a] w (IB (onI 97 a) (onB 97) w) := by
  have hl := run_find (P := Tryz.prog) Tryz.underlying117 Tryz.underlying5 (oneES w.heap.size) 4 97 (.func (Fn.func 178) #[] #[.pointer (some ⟨w.heap.size + 1 + 1, 0, none⟩)]) 1 rfl w.heap.size (oneW w) (heap_2 w _ _ _)
  go_enter Tryz.func130, Tryz.ntmps130
  go_wp2_with (first | (go_at_call 152; refine (ofone_any _).mono ?_; rintro e w' ⟨rfl, rfl⟩) | (go_at_call 131; refine (float_any _ _).mono ?_; rintro e w' ⟨rfl, rfl⟩) | (go_at_call 178; refine (abs_call _ _ _ (cb_lt a) (oneW_cell2 w)).mono ?_; rintro e w' ⟨r, rfl, hr, n, rfl⟩; have HR := Lib.hid hr; clear hr) | (go_at_call 132; refine (told_any _ _).mono ?_; rintro e w' ⟨rfl, rfl⟩))
  go_ret2
  exact ⟨retIB (HR.out.trans (onI_97 a)) rfl, below_drewN (oneW_below w) _⟩
theorem one_115 (a : Int) (w : World) :
    Calls Tryz.prog 130 #[.int .u8 115, .int .i64 a] w (IB (onI 115 a) (onB 115) w) := by
  have hl := run_find (P := Tryz.prog) Tryz.underlying117 Tryz.underlying5 (oneES w.heap.size) 4 115 (.func (Fn.func 172) #[] #[]) 2 rfl w.heap.size (oneW w) (heap_2 w _ _ _)
  go_enter Tryz.func130, Tryz.ntmps130
  go_wp2_with (first | (go_at_call 152; refine (ofone_any _).mono ?_; rintro e w' ⟨rfl, rfl⟩) | (go_at_call 131; refine (float_any _ _).mono ?_; rintro e w' ⟨rfl, rfl⟩) | (go_at_call 172; refine (csqrt_any _ _).mono ?_; rintro e w' ⟨r, rfl, hr, n, rfl⟩; have HR := Lib.hid hr; clear hr) | (go_at_call 132; refine (told_any _ _).mono ?_; rintro e w' ⟨rfl, rfl⟩))
  go_ret2
  exact ⟨retIB (HR.out.trans (onI_115 a)) rfl, below_drewN (oneW_below w) _⟩
theorem one_102 (a : Int) (w : World) :
    Calls Tryz.prog 130 #[.int .u8 102, .int .i64 a] w (IB (onI 102 a) (onB 102) w) := by
  have hl := run_find (P := Tryz.prog) Tryz.underlying117 Tryz.underlying5 (oneES w.heap.size) 4 102 (.func (Fn.func 173) #[] #[]) 3 rfl w.heap.size (oneW w) (heap_2 w _ _ _)
  go_enter Tryz.func130, Tryz.ntmps130
  go_wp2_with (first | (go_at_call 152; refine (ofone_any _).mono ?_; rintro e w' ⟨rfl, rfl⟩) | (go_at_call 131; refine (float_any _ _).mono ?_; rintro e w' ⟨rfl, rfl⟩) | (go_at_call 173; refine (cfloor_any _ (cb_lt a) _).mono ?_; rintro e w' ⟨r, rfl, hr, n, rfl⟩; have HR := Lib.hid hr; clear hr) | (go_at_call 132; refine (told_any _ _).mono ?_; rintro e w' ⟨rfl, rfl⟩))
  go_ret2
  exact ⟨retIB (HR.out.trans (onI_102 a)) rfl, below_drewN (oneW_below w) _⟩
theorem find1_no (op : Int) (b : Nat) (h : onB op = false) : Instr.findNow (.int .u8) (.int .u8 op) (oneES b).toList 0 = some none := by
  simp only [onB, Bool.or_eq_false_iff] at h
  obtain ⟨⟨⟨h1, h2⟩, h3⟩, h4⟩ := h
  simp [oneES, Instr.findNow, Instr.sameNow, on0, on1, on2, on3, h1, h2, h3, h4]
theorem one_no (op a : Int) (w : World) (h : onB op = false) :
    Calls Tryz.prog 130 #[.int .u8 op, .int .i64 a] w (IB 0 false w) := by
  have hl := run_find_no (P := Tryz.prog) Tryz.underlying117 Tryz.underlying5 (oneES w.heap.size) 4 op .nilFunc (fun w => by kernel_rfl) (find1_no op _ h) w.heap.size (oneW w) (heap_2 w _ _ _)
  clear h
  go_enter Tryz.func130, Tryz.ntmps130
  go_wp2_with (first | (go_at_call 152; refine (ofone_any _).mono ?_; rintro e w' ⟨rfl, rfl⟩))
  go_ret2
  exact ⟨rfl, oneW_below w⟩
theorem one_any (op a : Int) (w : World) :
    Calls Tryz.prog 130 #[.int .u8 op, .int .i64 a] w (IB (onI op a) (onB op) w) := by
  cases h : onB op
  · have e : onI op a = 0 := by unfold onI; rw [h]; rfl
    rw [e]; exact one_no op a w h
  · rw [← h]
    simp only [onB, Bool.or_eq_true, beq_iff_eq] at h
    rcases h with ((rfl | rfl) | rfl) | rfl
    · exact one_110 a w
    · exact one_97 a w
    · exact one_115 a w
    · exact one_102 a w

/-! ### the document's One -/
theorem sqrt_nan (x : Nat) (h : nanB x = true) : Ieee.double.sqrt x = none := by
  obtain ⟨s, t, e⟩ := read_nanD h
  unfold Ieee.Format.sqrt; rw [e]; rfl
theorem onI_nan (op a : Int) (hop : onB op = true) (h : nanB (cb a) = true) : 9221120237041090560 = onI op a := by
  unfold onI; rw [hop, if_pos rfl]; unfold onF
  split
  · exact tld_nan (by rw [nan_flip]; exact h)
  split
  · exact tld_nan (by rw [nan_rg]; exact h)
  split
  · rw [sqrt_nan _ h]; rfl
  · unfold floB; rw [h]; rfl
theorem rone_no (op a : Int) (w : World) (h : onB op = false) :
    Calls Tryz.prog 140 #[.int .u8 op, .int .i64 a] w (RB 0 false w) := by
  simp only [onB, Bool.or_eq_false_iff] at h
  obtain ⟨⟨⟨h1, h2⟩, h3⟩, h4⟩ := h
  have k1 : (op != 110) = true := by rw [bne, h1]; rfl
  have k2 : (op != 97) = true := by rw [bne, h2]; rfl
  have k3 : (op != 115) = true := by rw [bne, h3]; rfl
  have k4 : (op != 102) = true := by rw [bne, h4]; rfl
  go_enter Tryz.func140, Tryz.ntmps140
  go_wp2
  go_ret2
  exact ⟨rfl, 0, rfl⟩
theorem rone_nan (op a : Int) (w : World) (h : onB op = true) (hx : nanB (cb a) = true) :
    Calls Tryz.prog 140 #[.int .u8 op, .int .i64 a] w (RB (onI op a) true w) := by
  have H := Lib.hid (onI_nan op a h hx)
  simp only [onB, Bool.or_eq_true, beq_iff_eq] at h
  rcases h with ((rfl | rfl) | rfl) | rfl
  all_goals
    go_enter Tryz.func140, Tryz.ntmps140
    go_wp2_with (go_at_call 141; refine (num_any _ _).mono ?_; rintro e w' ⟨rfl, rfl⟩)
    go_ret2
    exact ⟨retIB H.out rfl, 0, rfl⟩
theorem uw_cb (a : Int) : IntKind.u64.wrap a = (cb a : Int) := by unfold cb; rw [uw]; omega
theorem rone_110 (a : Int) (w : World) (hx : nanB (cb a) = false) :
    Calls Tryz.prog 140 #[.int .u8 110, .int .i64 a] w (RB (onI 110 a) true w) := by
  have hd := run_cb a
  have H := Lib.hid (show wrap64 (bits .xor .u64 (IntKind.u64.wrap a) 9223372036854775808) = onI 110 a by
    rw [uw_cb, xor_flip _ (cb_lt a)]; exact (tld_num (by rw [nan_flip]; exact hx)).trans (onI_110 a))
  go_enter Tryz.func140, Tryz.ntmps140
  go_wp2_with (go_at_call 141; refine (num_any _ _).mono ?_; rintro e w' ⟨rfl, rfl⟩)
  go_ret2
  exact ⟨retIB H.out rfl, 0, rfl⟩
theorem rone_97 (a : Int) (w : World) (hx : nanB (cb a) = false) :
    Calls Tryz.prog 140 #[.int .u8 97, .int .i64 a] w (RB (onI 97 a) true w) := by
  have hd := run_cb a
  have H := Lib.hid (show wrap64 (bits .and .u64 (IntKind.u64.wrap a) 9223372036854775807) = onI 97 a by
    rw [uw_cb, and_abs _ (cb_lt a)]; exact (tld_num (by rw [nan_rg]; exact hx)).trans (onI_97 a))
  go_enter Tryz.func140, Tryz.ntmps140
  go_wp2_with (go_at_call 141; refine (num_any _ _).mono ?_; rintro e w' ⟨rfl, rfl⟩)
  go_ret2
  exact ⟨retIB H.out rfl, 0, rfl⟩
theorem rone_115 (a : Int) (w : World) (hx : nanB (cb a) = false) :
    Calls Tryz.prog 140 #[.int .u8 115, .int .i64 a] w (RB (onI 115 a) true w) := by
  have hd := run_cb a
  go_enter Tryz.func140, Tryz.ntmps140
  go_wp2_with (first | (go_at_call 141; refine (num_any _ _).mono ?_; rintro e w' ⟨rfl, rfl⟩) | (go_at_call 157; refine (sqrt_any _ _).mono ?_; rintro e w' ⟨r, rfl, hr, n, rfl⟩; have HR := Lib.hid hr; clear hr) | (go_at_call 139; refine (rcell_any _ _).mono ?_; rintro e w' ⟨rfl, rfl⟩))
  go_ret2
  exact ⟨retIB (HR.out.trans (onI_115 a)) rfl, n, rfl⟩
theorem rone_102 (a : Int) (w : World) (hx : nanB (cb a) = false) :
    Calls Tryz.prog 140 #[.int .u8 102, .int .i64 a] w (RB (onI 102 a) true w) := by
  have hd := run_cb a
  go_enter Tryz.func140, Tryz.ntmps140
  go_wp2_with (first | (go_at_call 141; refine (num_any _ _).mono ?_; rintro e w' ⟨rfl, rfl⟩) | (go_at_call 158; refine (floor_any _ (cb_lt a) _).mono ?_; rintro e w' ⟨r, rfl, hr, n, rfl⟩; have HR := Lib.hid hr; clear hr) | (go_at_call 139; refine (rcell_any _ _).mono ?_; rintro e w' ⟨rfl, rfl⟩))
  go_ret2
  exact ⟨retIB (HR.out.trans (onI_102 a)) rfl, n, rfl⟩
theorem rone_any (op a : Int) (w : World) :
    Calls Tryz.prog 140 #[.int .u8 op, .int .i64 a] w (RB (onI op a) (onB op) w) := by
  cases h : onB op
  · have e : onI op a = 0 := by unfold onI; rw [h]; rfl
    rw [e]; exact rone_no op a w h
  · cases hx : nanB (cb a)
    · simp only [onB, Bool.or_eq_true, beq_iff_eq] at h
      rcases h with ((rfl | rfl) | rfl) | rfl
      · exact rone_110 a w hx
      · exact rone_97 a w hx
      · exact rone_115 a w hx
      · exact rone_102 a w hx
    · exact rone_nan op a w h hx
end Go.Proofs.YtobijdfnafnodaaGreatDoor.Fl

/- Cells as floats and floats as cells: flo.Put, flo.Take and the document's answers. -/
namespace Go.Proofs.YtobijdfnafnodaaGreatDoor.Fl
set_option maxRecDepth 100000
open Go.ChangeShapes Go.WideShapes Go.ChangeAt Go.RowKit
set_option linter.unusedVariables false

/-! ### the edges -/
theorem sv_pe : sv 4890909195324358656 = (9223372036854775808 * uu : Nat) := by
  have e := rv_two 1085 63 rfl
  have : rv (rg 4890909195324358656) = 9223372036854775808 * uu := by
    rw [show rg 4890909195324358656 = (1085 + 1) * 4503599627370496 by decide, e, show (2 : Nat) ^ 63 = 9223372036854775808 by decide]
  unfold sv
  rw [show ng 4890909195324358656 = false by decide, this]; rfl
theorem sv_me : sv 14114281232179134464 = -(9223372036854775808 * uu : Nat) := by
  have e := rv_two 1085 63 rfl
  have : rv (rg 14114281232179134464) = 9223372036854775808 * uu := by
    rw [show rg 14114281232179134464 = (1085 + 1) * 4503599627370496 by decide, e, show (2 : Nat) ^ 63 = 9223372036854775808 by decide]
  unfold sv
  rw [show ng 14114281232179134464 = true by decide, this]; rfl
theorem geq_num (x y : Nat) (hx : nanB x = false) (hy : nanB y = false) : (Ieee.double.order x y == some .gt || Ieee.double.order x y == some .eq) = decide (sv y ≤ sv x) := by
  rw [order_num x y hx hy, Bool.eq_iff_iff, Bool.or_eq_true, decide_eq_true_eq]
  rcases Int.lt_trichotomy (sv x) (sv y) with h | h | h
  · rw [Int.compare_eq_lt.2 h]; simp; omega
  · rw [Int.compare_eq_eq.2 h]; simp; omega
  · rw [Int.compare_eq_gt.2 h]; simp; omega
def tkB (x : Nat) : Bool := !nanB x && decide (sv 14114281232179134464 ≤ sv x) && decide (sv x < sv 4890909195324358656)
def tkI (a : Int) : Int := if tkB (cb a) then ((Ieee.double.read (cb a)).toInt .zero).getD 0 else 0
theorem tk_no {a : Int} (h : tkB (cb a) = false) : 0 = tkI a := by unfold tkI; rw [h, if_neg Bool.false_ne_true]
theorem tk_fin {x : Nat} (h : tkB x = true) : rg x < infR ∧ nanB x = false ∧ sv 14114281232179134464 ≤ sv x ∧ sv x < sv 4890909195324358656 := by
  simp only [tkB, Bool.and_eq_true, Bool.not_eq_true', decide_eq_true_eq] at h
  obtain ⟨⟨h1, h2⟩, h3⟩ := h
  refine ⟨?_, h1, h2, h3⟩
  have := nan_fin h1
  by_cases e : rg x = infR
  · have hl := rv_lt (show rg 4890909195324358656 < infR by decide)
    have e1 : sv 4890909195324358656 = rv (rg 4890909195324358656) := by unfold sv; rw [show ng 4890909195324358656 = false by decide]; rfl
    have e2 : sv 14114281232179134464 = -(rv (rg 4890909195324358656) : Int) := by unfold sv; rw [show ng 14114281232179134464 = true by decide, show rg 14114281232179134464 = rg 4890909195324358656 by decide]; rfl
    rw [e1] at h3; rw [e2] at h2
    unfold sv at h2 h3; rw [e] at h2 h3
    generalize rv infR = V at *
    generalize rv (rg 4890909195324358656) = U at *
    cases hn : ng x
    · rw [hn] at h2 h3; simp at h2 h3; omega
    · rw [hn] at h2 h3; simp at h2 h3; omega
  · omega
theorem tk_val {x : Nat} (h : tkB x = true) : ∃ n, (Ieee.double.read x).toInt .zero = some n ∧ -9223372036854775808 ≤ n ∧ n ≤ 9223372036854775807 := by
  obtain ⟨h1, h2, h3, h4⟩ := tk_fin h
  rw [sv_me] at h3; rw [sv_pe] at h4
  refine ⟨_, toInt_fin x h1, ?_⟩
  have hu := uu_pos
  unfold sv at h3 h4
  cases hn : ng x
  · rw [hn] at h3 h4; simp only [Bool.false_eq_true, if_false] at h3 h4 ⊢
    have : rv (rg x) / uu < 9223372036854775808 := by rw [Nat.div_lt_iff_lt_mul hu]; omega
    generalize rv (rg x) / uu = D at *
    omega
  · rw [hn] at h3 h4; simp only [if_true] at h3 h4 ⊢
    have : rv (rg x) / uu ≤ 9223372036854775808 := Nat.div_le_of_le_mul (by rw [Nat.mul_comm]; omega)
    generalize rv (rg x) / uu = D at *
    omega
theorem val_some {x : Nat} {n : Int} (h : (Ieee.double.read x).toInt .zero = some n) (h1 : -9223372036854775808 ≤ n) (h2 : n ≤ 9223372036854775807) : floatToIntVal .f64 x .i64 = some n := by
  unfold floatToIntVal
  have e : (FloatKind.f64.decode x).toInt .zero = some n := h
  rw [e]
  simp only
  rw [if_pos ⟨by simpa [IntKind.min, IntKind.signed, IntKind.bits] using h1, by simpa [IntKind.max, IntKind.signed, IntKind.bits] using h2⟩]

/-! ### Put, Take -/
def puI (n : Int) : Int := tld (floatOfInt .f64 n)
theorem put_any (n : Int) (w : World) :
    Calls Tryz.prog 97 #[.int .i64 n] w fun e w' => e = .returned (.int .i64 (puI n)) ∧ w = w' := by
  go_enter Tryz.func97, Tryz.ntmps97
  go_wp2_with (go_at_call 132; refine (told_any _ _).mono ?_; rintro e w' ⟨rfl, rfl⟩)
  go_ret
  exact ⟨rfl, rfl⟩
theorem rput_any (n : Int) (w : World) :
    Calls Tryz.prog 104 #[.int .i64 n] w fun e w' => e = .returned (.int .i64 (puI n)) ∧ w = w' := by
  go_enter Tryz.func104, Tryz.ntmps104
  go_wp2_with (go_at_call 139; refine (rcell_any _ _).mono ?_; rintro e w' ⟨rfl, rfl⟩)
  go_ret
  exact ⟨rfl, rfl⟩
theorem take_any (a : Int) (w : World) :
    Calls Tryz.prog 133 #[.int .i64 a] w fun e w' => e = .returned (.tuple #[.int .i64 (tkI a), .bool (tkB (cb a))]) ∧ w = w' := by
  cases h : tkB (cb a)
  · have H := Lib.hid (tk_no h)
    cases hx : nanB (cb a)
    · have hg := geq_num (cb a) 14114281232179134464 hx (by decide)
      have hl := lt_num (cb a) 4890909195324358656 hx (by decide)
      unfold tkB at h
      rw [hx] at h
      by_cases h1 : sv 14114281232179134464 ≤ sv (cb a)
      · have h2 : ¬ sv (cb a) < sv 4890909195324358656 := by
          intro k; rw [decide_eq_true h1, decide_eq_true k] at h; cases h
        have t1 : (FloatKind.f64.format.order (cb a) 14114281232179134464 == some .gt || FloatKind.f64.format.order (cb a) 14114281232179134464 == some .eq) = true := hg.trans (decide_eq_true h1)
        have t2 : (FloatKind.f64.format.order (cb a) 4890909195324358656 == some .lt) = false := hl.trans (decide_eq_false h2)
        clear h hg hl h1 h2 hx
        go_enter Tryz.func133, Tryz.ntmps133
        go_wp2_with (go_at_call 131; refine (float_any _ _).mono ?_; rintro e w' ⟨rfl, rfl⟩)
        go_ret2
        exact ⟨retIB H.out rfl, rfl⟩
      · have t1 : (FloatKind.f64.format.order (cb a) 14114281232179134464 == some .gt || FloatKind.f64.format.order (cb a) 14114281232179134464 == some .eq) = false := hg.trans (decide_eq_false h1)
        clear h hg hl h1 hx
        go_enter Tryz.func133, Tryz.ntmps133
        go_wp2_with (go_at_call 131; refine (float_any _ _).mono ?_; rintro e w' ⟨rfl, rfl⟩)
        go_ret2
        exact ⟨retIB H.out rfl, rfl⟩
    · have ho : FloatKind.f64.format.order (cb a) 14114281232179134464 = none := order_nan _ _ (.inl hx)
      have t1 : (FloatKind.f64.format.order (cb a) 14114281232179134464 == some .gt || FloatKind.f64.format.order (cb a) 14114281232179134464 == some .eq) = false := by rw [ho]; rfl
      clear h hx ho
      go_enter Tryz.func133, Tryz.ntmps133
      go_wp2_with (go_at_call 131; refine (float_any _ _).mono ?_; rintro e w' ⟨rfl, rfl⟩)
      go_ret2
      exact ⟨retIB H.out rfl, rfl⟩
  · obtain ⟨n, hn, n1, n2⟩ := tk_val h
    obtain ⟨_, hx, h1, h2⟩ := tk_fin h
    have hg := geq_num (cb a) 14114281232179134464 hx (by decide)
    have hl := lt_num (cb a) 4890909195324358656 hx (by decide)
    have t1 : (FloatKind.f64.format.order (cb a) 14114281232179134464 == some .gt || FloatKind.f64.format.order (cb a) 14114281232179134464 == some .eq) = true := hg.trans (decide_eq_true h1)
    have t2 : (FloatKind.f64.format.order (cb a) 4890909195324358656 == some .lt) = true := hl.trans (decide_eq_true h2)
    have H := Lib.hid (show n = tkI a by unfold tkI; rw [h, if_pos rfl, hn]; rfl)
    have hc := fun w => run_convert_float_int (P := Tryz.prog) w 91 3 .f64 .i64 (cb a) n (by kernel_rfl) Tryz.underlying3 (val_some hn n1 n2)
    clear h hg hl h1 h2 hx hn n1 n2
    go_enter Tryz.func133, Tryz.ntmps133
    go_wp2_with (go_at_call 131; refine (float_any _ _).mono ?_; rintro e w' ⟨rfl, rfl⟩)
    go_ret2
    exact ⟨retIB H.out rfl, rfl⟩
theorem trunc_any (x : Nat) (h : nanB x = false) (w : World) :
    Calls Tryz.prog 103 #[.float .f64 x] w fun e w' => e = .returned (.float .f64 (trB x)) ∧ w = w' := by
  have hd := run_trunc_ok x h
  clear h
  go_enter Tryz.func103, Tryz.ntmps103
  go_wp2
  go_ret
  exact ⟨rfl, rfl⟩
theorem rtake_any (a : Int) (w : World) :
    Calls Tryz.prog 43 #[.int .i64 a] w fun e w' => e = .returned (.tuple #[.int .i64 (tkI a), .bool (tkB (cb a))]) ∧ w = w' := by
  have hd := run_cb a
  have ho := order_self (cb a)
  cases h : tkB (cb a)
  · have H := Lib.hid (tk_no h)
    cases hx : nanB (cb a)
    · have t0 : (FloatKind.f64.format.order (cb a) (cb a) != some .eq) = false := by rw [bne, show (FloatKind.f64.format.order (cb a) (cb a) == some .eq) = _ from ho, hx]; rfl
      have hl := lt_num (cb a) 14114281232179134464 hx (by decide)
      have hg := geq_num (cb a) 4890909195324358656 hx (by decide)
      unfold tkB at h
      rw [hx] at h
      by_cases h1 : sv 14114281232179134464 ≤ sv (cb a)
      · have h2 : sv 4890909195324358656 ≤ sv (cb a) := by
          by_cases k : sv (cb a) < sv 4890909195324358656
          · rw [decide_eq_true h1, decide_eq_true k] at h; cases h
          · omega
        have t1 : (FloatKind.f64.format.order (cb a) 14114281232179134464 == some .lt) = false := hl.trans (decide_eq_false (by omega))
        have t2 : (FloatKind.f64.format.order (cb a) 4890909195324358656 == some .gt || FloatKind.f64.format.order (cb a) 4890909195324358656 == some .eq) = true := hg.trans (decide_eq_true h2)
        clear h hg hl h1 h2 hx ho
        go_enter Tryz.func43, Tryz.ntmps43
        go_wp2
        go_ret2
        exact ⟨retIB H.out rfl, rfl⟩
      · have t1 : (FloatKind.f64.format.order (cb a) 14114281232179134464 == some .lt) = true := hl.trans (decide_eq_true (by omega))
        clear h hg hl h1 hx ho
        go_enter Tryz.func43, Tryz.ntmps43
        go_wp2
        go_ret2
        exact ⟨retIB H.out rfl, rfl⟩
    · have t0 : (FloatKind.f64.format.order (cb a) (cb a) != some .eq) = true := by rw [bne, show (FloatKind.f64.format.order (cb a) (cb a) == some .eq) = _ from ho, hx]; rfl
      clear h hx ho
      go_enter Tryz.func43, Tryz.ntmps43
      go_wp2
      go_ret2
      exact ⟨retIB H.out rfl, rfl⟩
  · obtain ⟨n, hn, n1, n2⟩ := tk_val h
    obtain ⟨hf, hx, h1, h2⟩ := tk_fin h
    have hl := lt_num (cb a) 14114281232179134464 hx (by decide)
    have hg := geq_num (cb a) 4890909195324358656 hx (by decide)
    have t0 : (FloatKind.f64.format.order (cb a) (cb a) != some .eq) = false := by rw [bne, show (FloatKind.f64.format.order (cb a) (cb a) == some .eq) = _ from ho, hx]; rfl
    have t1 : (FloatKind.f64.format.order (cb a) 14114281232179134464 == some .lt) = false := hl.trans (decide_eq_false (by omega))
    have t2 : (FloatKind.f64.format.order (cb a) 4890909195324358656 == some .gt || FloatKind.f64.format.order (cb a) 4890909195324358656 == some .eq) = false := hg.trans (decide_eq_false (by omega))
    have H := Lib.hid (show n = tkI a by unfold tkI; rw [h, if_pos rfl, hn]; rfl)
    have HX := Lib.hid hx
    have hc := fun w => run_convert_float_int (P := Tryz.prog) w 91 3 .f64 .i64 (trB (cb a)) n (by kernel_rfl) Tryz.underlying3 (val_some ((toInt_tr _ hf).trans hn) n1 n2)
    clear h hg hl h1 h2 hx hn n1 n2 ho hf
    go_enter Tryz.func43, Tryz.ntmps43
    go_wp2_with (go_at_call 103; refine (trunc_any _ HX.out _).mono ?_; rintro e w' ⟨rfl, rfl⟩)
    go_ret2
    exact ⟨retIB H.out rfl, rfl⟩

/-! ### there and back -/
theorem cb_wrap (x : Nat) (h : x < 18446744073709551616) : cb (wrap64 x) = x := by
  unfold cb wrap64; rw [uw]; omega
theorem pu_word (n : Int) (hn : -9223372036854775808 ≤ n ∧ n ≤ 9223372036854775807) : ∃ q, cb (puI n) = Ieee.double.word (decide (n < 0)) q ∧ q ≤ infR ∧
    (∀ s, s ≤ infR → rv s ≤ n.natAbs * uu → s ≤ q) ∧ (∀ s, n.natAbs * uu ≤ rv s → q ≤ s) := by
  obtain ⟨q, hq, hw, k1, k2⟩ := nearest_rung (decide (n < 0)) n.natAbs 0 (by omega)
  rw [uu_of _ (show ((0 : Int) + 1074).toNat = kk from rfl)] at k1 k2
  have e : floatOfInt .f64 n = Ieee.double.word (decide (n < 0)) q := hw
  refine ⟨q, ?_, hq, k1, k2⟩
  unfold puI
  rw [e, ← tld_num (nan_word _ _ hq)]
  refine cb_wrap _ ?_
  have := lt63 hq
  rw [word_eq]; cases decide (n < 0) <;> simp <;> omega
theorem tk_small (n : Int) (h : -9007199254740992 ≤ n ∧ n ≤ 9007199254740992) : tkB (cb (puI n)) = true ∧ tkI (puI n) = n := by
  obtain ⟨q, e, hq, k1, k2⟩ := pu_word n (by omega)
  obtain ⟨t, ht, hr⟩ := rep n.natAbs (by omega)
  have hqt : q = t := Nat.le_antisymm (k2 t (by omega)) (k1 t (by omega) (by omega))
  subst hqt
  have hu := uu_pos
  have l := lt63 hq
  have hb : n.natAbs * uu ≤ 9007199254740992 * uu := Nat.mul_le_mul_right _ (by omega)
  have hk : tkB (cb (puI n)) = true := by
    unfold tkB
    rw [e, nan_word _ _ hq, sv_word _ _ hq, sv_me, sv_pe, hr]
    simp only [Bool.not_false, Bool.true_and, Bool.and_eq_true, decide_eq_true_eq]
    have : 9007199254740992 * uu < 9223372036854775808 * uu := Nat.mul_lt_mul_of_pos_right (by omega) hu
    split <;> omega
  refine ⟨hk, ?_⟩
  unfold tkI
  rw [hk, if_pos rfl, e, toInt_fin _ (by rw [rg_word _ _ l]; exact ht), rg_word _ _ l, ng_word _ _ l, hr, Nat.mul_div_cancel _ hu]
  show (if decide (n < 0) = true then _ else _) = _
  by_cases h0 : n < 0
  · rw [if_pos (by simpa using h0)]; omega
  · rw [if_neg (by simpa using h0)]; omega
theorem tk_most (n : Int) (h : -9223372036854775808 ≤ n ∧ n ≤ 4611686018427387904) : tkB (cb (puI n)) = true := by
  obtain ⟨q, e, hq, k1, k2⟩ := pu_word n (by omega)
  have hu := uu_pos
  have e2 := rv_two 1084 62 rfl
  have e3 := rv_two 1085 63 rfl
  rw [show (2 : Nat) ^ 62 = 4611686018427387904 by decide] at e2
  rw [show (2 : Nat) ^ 63 = 9223372036854775808 by decide] at e3
  have hlt : 4611686018427387904 * uu < 9223372036854775808 * uu := Nat.mul_lt_mul_of_pos_right (by omega) hu
  unfold tkB
  rw [e, nan_word _ _ hq, sv_word _ _ hq, sv_me, sv_pe]
  simp only [Bool.not_false, Bool.true_and, Bool.and_eq_true, decide_eq_true_eq]
  by_cases h0 : n < 0
  · have hb : n.natAbs * uu ≤ 9223372036854775808 * uu := Nat.mul_le_mul_right _ (by omega)
    have := rv_le (k2 _ (by rw [e3]; exact hb))
    rw [e3] at this
    rw [if_pos h0]
    have : 0 < 9223372036854775808 * uu := by omega
    omega
  · have hb : n.natAbs * uu ≤ 4611686018427387904 * uu := Nat.mul_le_mul_right _ (by omega)
    have := rv_le (k2 _ (by rw [e2]; exact hb))
    rw [e2] at this
    rw [if_neg h0]
    omega
end Go.Proofs.YtobijdfnafnodaaGreatDoor.Fl

/- The statements' own helpers: awake, two, one1. -/
namespace Go.Proofs.YtobijdfnafnodaaGreatDoor.Fl
set_option maxRecDepth 100000
open Go.ChangeShapes Go.WideShapes Go.ChangeAt Go.RowKit
set_option linter.unusedVariables false

theorem two_c1 (w : World) : Calls Tryz.prog 128 #[.int .u8 47, .int .i64 4607182418800017408, .int .i64 (-9223372036854775808)] w (IB (-4503599627370496) true w) := by
  have h := two_any 47 4607182418800017408 (-9223372036854775808) w
  rw [show twI 47 4607182418800017408 (-9223372036854775808) = -4503599627370496 by decide +kernel, show twB 47 = true by decide] at h
  exact h
theorem two_c2 (w : World) : Calls Tryz.prog 128 #[.int .u8 109, .int .i64 0, .int .i64 (-9223372036854775808)] w (IB (-9223372036854775808) true w) := by
  have h := two_any 109 0 (-9223372036854775808) w
  rw [show twI 109 0 (-9223372036854775808) = -9223372036854775808 by decide +kernel, show twB 109 = true by decide] at h
  exact h
theorem one_c (w : World) : Calls Tryz.prog 130 #[.int .u8 110, .int .i64 4607182418800017408] w (IB (-4616189618054758400) true w) := by
  have h := one_any 110 4607182418800017408 w
  rw [show onI 110 4607182418800017408 = -4616189618054758400 by decide +kernel, show onB 110 = true by decide] at h
  exact h
theorem less_c (w : World) : Calls Tryz.prog 95 #[.int .i64 (-4616189618054758400), .int .i64 4607182418800017408] w fun e w' => e = .returned (.bool true) ∧ w = w' := by
  have h := less_any (-4616189618054758400) 4607182418800017408 w
  rw [show ltB (cb (-4616189618054758400)) (cb 4607182418800017408) = true by decide +kernel] at h
  exact h
theorem same_c (w : World) : Calls Tryz.prog 96 #[.int .i64 0, .int .i64 (-9223372036854775808)] w fun e w' => e = .returned (.bool true) ∧ w = w' := by
  have h := same_any 0 (-9223372036854775808) w
  rw [show eqB (cb 0) (cb (-9223372036854775808)) = true by decide +kernel] at h
  exact h
theorem put_c (w : World) : Calls Tryz.prog 97 #[.int .i64 1] w fun e w' => e = .returned (.int .i64 4607182418800017408) ∧ w = w' := by
  have h := put_any 1 w
  rw [show puI 1 = 4607182418800017408 by decide +kernel] at h
  exact h
end Go.Proofs.YtobijdfnafnodaaGreatDoor.Fl
