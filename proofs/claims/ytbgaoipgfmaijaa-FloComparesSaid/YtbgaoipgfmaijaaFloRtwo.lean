/- The document's Two: its contract. -/
import Derived.Test.YtbgaoipgfmaijaaFloRef
namespace Go.Proofs.Ytbgaoipgfmaijaa
open Go.ChangeShapes Go.WideShapes Go.ChangeAt Go.RowKit
set_option linter.unusedVariables false

/-- A cell and a bool come back; but draws nothing has turned. -/
def RB (x : Int) (z : Bool) (w : World) (e : Ending) (w' : World) : Prop := e = .returned (.tuple #[.int .i64 x, .bool z]) ∧ ∃ n, w' = w.drewN n
theorem read_nanD {x : Nat} (h : nanB x = true) : ∃ s t, Ieee.double.read x = .nan s t := ⟨_, _, read_nan x (by simpa [nanB] using h)⟩
theorem twF_nan (op : Int) (x y : Nat) (h : nanB x = true ∨ nanB y = true) : twF op x y = none := by
  have ho := order_nan x y h
  unfold twF
  split
  · unfold Ieee.Format.add
    rcases h with h | h
    · obtain ⟨s, t, e⟩ := read_nanD h; rw [e]; rfl
    · obtain ⟨s, t, e⟩ := read_nanD h; rw [e]; cases Ieee.double.read x <;> rfl
  split
  · unfold Ieee.Format.sub
    rcases h with h | h
    · obtain ⟨s, t, e⟩ := read_nanD h; rw [e]; rfl
    · obtain ⟨s, t, e⟩ := read_nanD h; rw [e]; cases Ieee.double.read x <;> rfl
  split
  · unfold Ieee.Format.mul
    rcases h with h | h
    · obtain ⟨s, t, e⟩ := read_nanD h; rw [e]; rfl
    · obtain ⟨s, t, e⟩ := read_nanD h; rw [e]; cases Ieee.double.read x <;> rfl
  split
  · unfold Ieee.Format.div
    rcases h with h | h
    · obtain ⟨s, t, e⟩ := read_nanD h; rw [e]; rfl
    · obtain ⟨s, t, e⟩ := read_nanD h; rw [e]; cases Ieee.double.read x <;> rfl
  split
  · unfold mnB; rw [ho]
  · unfold mxB; rw [ho]
theorem twI_nan (op a b : Int) (hop : twB op = true) (h : nanB (cb a) = true ∨ nanB (cb b) = true) : 9221120237041090560 = twI op a b := by
  unfold twI; rw [hop, if_pos rfl, twF_nan op _ _ h]; rfl
theorem rtwo_no (op a b : Int) (w : World) (h : twB op = false) :
    Calls Try.prog 10 #[.int .u8 op, .int .i64 a, .int .i64 b] w (RB 0 false w) := by
  simp only [twB, Bool.or_eq_false_iff] at h
  obtain ⟨⟨⟨⟨⟨h1, h2⟩, h3⟩, h4⟩, h5⟩, h6⟩ := h
  go_enter Try.func10, Try.ntmps10
  go_wp2
  go_ret2
  exact ⟨rfl, 0, rfl⟩
theorem rtwo_43 (a b : Int) (w : World) (hx : nanB (cb a) = false) (hy : nanB (cb b) = false) :
    Calls Try.prog 10 #[.int .u8 43, .int .i64 a, .int .i64 b] w (RB (twI 43 a b) true w) := by
  have hd := run_cb a
  have hd2 := run_cb b
  cases h : Ieee.double.add (cb a) (cb b) with
  | some r =>
    have hf := fun (w : World) => run_float_arith (P := Try.prog) w .add 39 .f64 (cb a) (cb b) r h
    have H := Lib.hid (show tld r = twI 43 a b by show _ = tlo (Ieee.double.add (cb a) (cb b)); rw [h]; rfl)
    clear h
    go_enter Try.func10, Try.ntmps10
    go_wp2_with (first | (go_at_call 14; refine (num_any _ _).mono ?_; rintro e w' ⟨rfl, rfl⟩) | (go_at_call 28; refine (rcell_any _ _).mono ?_; rintro e w' ⟨rfl, rfl⟩))
    go_ret2
    exact ⟨retIB H.out rfl, 0, rfl⟩
  | none =>
    have hf := fun (w : World) => run_arith_nan (P := Try.prog) .add 39 (cb a) (cb b) (.inl rfl) h w
    have H := Lib.hid (show ∀ r, nanB r = true → tld r = twI 43 a b by intro r hr; show _ = tlo (Ieee.double.add (cb a) (cb b)); rw [h]; exact (tld_nan hr).symm)
    clear h
    go_enter Try.func10, Try.ntmps10
    go_wp2_with (first | (go_at_call 14; refine (num_any _ _).mono ?_; rintro e w' ⟨rfl, rfl⟩) | (go_at_call 28; refine (rcell_any _ _).mono ?_; rintro e w' ⟨rfl, rfl⟩))
    go_ret2
    exact ⟨retIB (H.out _ (nanOf_bits _ _ _).1) rfl, 1, rfl⟩
theorem rtwo_45 (a b : Int) (w : World) (hx : nanB (cb a) = false) (hy : nanB (cb b) = false) :
    Calls Try.prog 10 #[.int .u8 45, .int .i64 a, .int .i64 b] w (RB (twI 45 a b) true w) := by
  have hd := run_cb a
  have hd2 := run_cb b
  cases h : Ieee.double.sub (cb a) (cb b) with
  | some r =>
    have hf := fun (w : World) => run_float_arith (P := Try.prog) w .sub 39 .f64 (cb a) (cb b) r h
    have H := Lib.hid (show tld r = twI 45 a b by show _ = tlo (Ieee.double.sub (cb a) (cb b)); rw [h]; rfl)
    clear h
    go_enter Try.func10, Try.ntmps10
    go_wp2_with (first | (go_at_call 14; refine (num_any _ _).mono ?_; rintro e w' ⟨rfl, rfl⟩) | (go_at_call 28; refine (rcell_any _ _).mono ?_; rintro e w' ⟨rfl, rfl⟩))
    go_ret2
    exact ⟨retIB H.out rfl, 0, rfl⟩
  | none =>
    have hf := fun (w : World) => run_arith_nan (P := Try.prog) .sub 39 (cb a) (cb b) (.inr (.inl rfl)) h w
    have H := Lib.hid (show ∀ r, nanB r = true → tld r = twI 45 a b by intro r hr; show _ = tlo (Ieee.double.sub (cb a) (cb b)); rw [h]; exact (tld_nan hr).symm)
    clear h
    go_enter Try.func10, Try.ntmps10
    go_wp2_with (first | (go_at_call 14; refine (num_any _ _).mono ?_; rintro e w' ⟨rfl, rfl⟩) | (go_at_call 28; refine (rcell_any _ _).mono ?_; rintro e w' ⟨rfl, rfl⟩))
    go_ret2
    exact ⟨retIB (H.out _ (nanOf_bits _ _ _).1) rfl, 1, rfl⟩
theorem rtwo_42 (a b : Int) (w : World) (hx : nanB (cb a) = false) (hy : nanB (cb b) = false) :
    Calls Try.prog 10 #[.int .u8 42, .int .i64 a, .int .i64 b] w (RB (twI 42 a b) true w) := by
  have hd := run_cb a
  have hd2 := run_cb b
  cases h : Ieee.double.mul (cb a) (cb b) with
  | some r =>
    have hf := fun (w : World) => run_float_arith (P := Try.prog) w .mul 39 .f64 (cb a) (cb b) r h
    have H := Lib.hid (show tld r = twI 42 a b by show _ = tlo (Ieee.double.mul (cb a) (cb b)); rw [h]; rfl)
    clear h
    go_enter Try.func10, Try.ntmps10
    go_wp2_with (first | (go_at_call 14; refine (num_any _ _).mono ?_; rintro e w' ⟨rfl, rfl⟩) | (go_at_call 28; refine (rcell_any _ _).mono ?_; rintro e w' ⟨rfl, rfl⟩))
    go_ret2
    exact ⟨retIB H.out rfl, 0, rfl⟩
  | none =>
    have hf := fun (w : World) => run_arith_nan (P := Try.prog) .mul 39 (cb a) (cb b) (.inr (.inr (.inl rfl))) h w
    have H := Lib.hid (show ∀ r, nanB r = true → tld r = twI 42 a b by intro r hr; show _ = tlo (Ieee.double.mul (cb a) (cb b)); rw [h]; exact (tld_nan hr).symm)
    clear h
    go_enter Try.func10, Try.ntmps10
    go_wp2_with (first | (go_at_call 14; refine (num_any _ _).mono ?_; rintro e w' ⟨rfl, rfl⟩) | (go_at_call 28; refine (rcell_any _ _).mono ?_; rintro e w' ⟨rfl, rfl⟩))
    go_ret2
    exact ⟨retIB (H.out _ (nanOf_bits _ _ _).1) rfl, 1, rfl⟩
theorem rtwo_47 (a b : Int) (w : World) (hx : nanB (cb a) = false) (hy : nanB (cb b) = false) :
    Calls Try.prog 10 #[.int .u8 47, .int .i64 a, .int .i64 b] w (RB (twI 47 a b) true w) := by
  have hd := run_cb a
  have hd2 := run_cb b
  cases h : Ieee.double.div (cb a) (cb b) with
  | some r =>
    have hf := fun (w : World) => run_float_arith (P := Try.prog) w .quo 39 .f64 (cb a) (cb b) r h
    have H := Lib.hid (show tld r = twI 47 a b by show _ = tlo (Ieee.double.div (cb a) (cb b)); rw [h]; rfl)
    clear h
    go_enter Try.func10, Try.ntmps10
    go_wp2_with (first | (go_at_call 14; refine (num_any _ _).mono ?_; rintro e w' ⟨rfl, rfl⟩) | (go_at_call 28; refine (rcell_any _ _).mono ?_; rintro e w' ⟨rfl, rfl⟩))
    go_ret2
    exact ⟨retIB H.out rfl, 0, rfl⟩
  | none =>
    have hf := fun (w : World) => run_arith_nan (P := Try.prog) .quo 39 (cb a) (cb b) (.inr (.inr (.inr rfl))) h w
    have H := Lib.hid (show ∀ r, nanB r = true → tld r = twI 47 a b by intro r hr; show _ = tlo (Ieee.double.div (cb a) (cb b)); rw [h]; exact (tld_nan hr).symm)
    clear h
    go_enter Try.func10, Try.ntmps10
    go_wp2_with (first | (go_at_call 14; refine (num_any _ _).mono ?_; rintro e w' ⟨rfl, rfl⟩) | (go_at_call 28; refine (rcell_any _ _).mono ?_; rintro e w' ⟨rfl, rfl⟩))
    go_ret2
    exact ⟨retIB (H.out _ (nanOf_bits _ _ _).1) rfl, 1, rfl⟩
theorem rtwo_109 (a b : Int) (w : World) (ha : -9223372036854775808 ≤ a ∧ a ≤ 9223372036854775807) (hb : -9223372036854775808 ≤ b ∧ b ≤ 9223372036854775807) (hx : nanB (cb a) = false) (hy : nanB (cb b) = false) :
    Calls Try.prog 10 #[.int .u8 109, .int .i64 a, .int .i64 b] w (RB (twI 109 a b) true w) := by
  have hd := run_cb a
  have hd2 := run_cb b
  have H := Lib.hid (show lsI a b = twI 109 a b from (mn_ls a b ha hb hx hy).symm)
  go_enter Try.func10, Try.ntmps10
  go_wp2_with (first | (go_at_call 14; refine (num_any _ _).mono ?_; rintro e w' ⟨rfl, rfl⟩) | (go_at_call 29; refine (least_any _ _ _).mono ?_; rintro e w' ⟨rfl, rfl⟩))
  go_ret2
  exact ⟨retIB H.out rfl, 0, rfl⟩
theorem rtwo_77 (a b : Int) (w : World) (ha : -9223372036854775808 ≤ a ∧ a ≤ 9223372036854775807) (hb : -9223372036854775808 ≤ b ∧ b ≤ 9223372036854775807) (hx : nanB (cb a) = false) (hy : nanB (cb b) = false) :
    Calls Try.prog 10 #[.int .u8 77, .int .i64 a, .int .i64 b] w (RB (twI 77 a b) true w) := by
  have hd := run_cb a
  have hd2 := run_cb b
  have H := Lib.hid (show gtI a b = twI 77 a b from (mx_gt a b ha hb hx hy).symm)
  go_enter Try.func10, Try.ntmps10
  go_wp2_with (first | (go_at_call 14; refine (num_any _ _).mono ?_; rintro e w' ⟨rfl, rfl⟩) | (go_at_call 30; refine (greatest_any _ _ _).mono ?_; rintro e w' ⟨rfl, rfl⟩))
  go_ret2
  exact ⟨retIB H.out rfl, 0, rfl⟩
theorem rtwo_nan (op a b : Int) (w : World) (h : twB op = true) (hn : nanB (cb a) = true ∨ nanB (cb b) = true) :
    Calls Try.prog 10 #[.int .u8 op, .int .i64 a, .int .i64 b] w (RB (twI op a b) true w) := by
  have H := Lib.hid (twI_nan op a b h hn)
  simp only [twB, Bool.or_eq_true, beq_iff_eq] at h
  cases hx : nanB (cb a)
  · have hy : nanB (cb b) = true := by rw [hx] at hn; simpa using hn
    clear hn
    rcases h with ((((rfl | rfl) | rfl) | rfl) | rfl) | rfl
    all_goals
      go_enter Try.func10, Try.ntmps10
      go_wp2_with (go_at_call 14; refine (num_any _ _).mono ?_; rintro e w' ⟨rfl, rfl⟩)
      go_ret2
      exact ⟨retIB H.out rfl, 0, rfl⟩
  · clear hn
    rcases h with ((((rfl | rfl) | rfl) | rfl) | rfl) | rfl
    all_goals
      go_enter Try.func10, Try.ntmps10
      go_wp2_with (go_at_call 14; refine (num_any _ _).mono ?_; rintro e w' ⟨rfl, rfl⟩)
      go_ret2
      exact ⟨retIB H.out rfl, 0, rfl⟩
theorem rtwo_any (op a b : Int) (w : World) (ha : -9223372036854775808 ≤ a ∧ a ≤ 9223372036854775807) (hb : -9223372036854775808 ≤ b ∧ b ≤ 9223372036854775807) :
    Calls Try.prog 10 #[.int .u8 op, .int .i64 a, .int .i64 b] w (RB (twI op a b) (twB op) w) := by
  cases h : twB op
  · have e : twI op a b = 0 := by unfold twI; rw [h]; rfl
    rw [e]; exact rtwo_no op a b w h
  · by_cases hn : nanB (cb a) = true ∨ nanB (cb b) = true
    · exact rtwo_nan op a b w h hn
    · have hx : nanB (cb a) = false := by simpa using fun k => hn (.inl k)
      have hy : nanB (cb b) = false := by simpa using fun k => hn (.inr k)
      simp only [twB, Bool.or_eq_true, beq_iff_eq] at h
      rcases h with ((((rfl | rfl) | rfl) | rfl) | rfl) | rfl
      · exact rtwo_43 a b w hx hy
      · exact rtwo_45 a b w hx hy
      · exact rtwo_42 a b w hx hy
      · exact rtwo_47 a b w hx hy
      · exact rtwo_109 a b w ha hb hx hy
      · exact rtwo_77 a b w ha hb hx hy
end Go.Proofs.Ytbgaoipgfmaijaa
