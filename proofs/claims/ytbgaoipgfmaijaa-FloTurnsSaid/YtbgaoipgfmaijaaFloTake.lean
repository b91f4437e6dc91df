/- Cells as floats and floats as cells: flo.Put, flo.Take and the document's answers. -/
import Derived.Test.YtbgaoipgfmaijaaFloOne
namespace Go.Proofs.Ytbgaoipgfmaijaa
open Go.ChangeShapes Go.WideShapes Go.ChangeAt Go.RowKit
set_option linter.unusedVariables false

/-! ### the edges -/
theorem sv_pe : sv 4890909195324358656 = (9223372036854775808 * uu : Nat) := by
  have e := rv_two 1085 63 rfl
  have : rv (rg 4890909195324358656) = 9223372036854775808 * uu := by
    rw [show rg 4890909195324358656 = (1085 + 1) * 4503599627370496 by decide, e, show (2 : Nat) ^ 63 = 9223372036854775808 by decide]
  unfold sv
  rw [show ng 4890909195324358656 = false by decide, this]; rfl
theorem sv_me : sv 14114281232179134464 = -(9223372036854775808 * uu : Nat) := by
  have e := rv_two 1085 63 rfl
  have : rv (rg 14114281232179134464) = 9223372036854775808 * uu := by
    rw [show rg 14114281232179134464 = (1085 + 1) * 4503599627370496 by decide, e, show (2 : Nat) ^ 63 = 9223372036854775808 by decide]
  unfold sv
  rw [show ng 14114281232179134464 = true by decide, this]; rfl
theorem geq_num (x y : Nat) (hx : nanB x = false) (hy : nanB y = false) : (Ieee.double.order x y == some .gt || Ieee.double.order x y == some .eq) = decide (sv y ≤ sv x) := by
  rw [order_num x y hx hy, Bool.eq_iff_iff, Bool.or_eq_true, decide_eq_true_eq]
  rcases Int.lt_trichotomy (sv x) (sv y) with h | h | h
  · rw [Int.compare_eq_lt.2 h]; simp; omega
  · rw [Int.compare_eq_eq.2 h]; simp; omega
  · rw [Int.compare_eq_gt.2 h]; simp; omega
def tkB (x : Nat) : Bool := !nanB x && decide (sv 14114281232179134464 ≤ sv x) && decide (sv x < sv 4890909195324358656)
def tkI (a : Int) : Int := if tkB (cb a) then ((Ieee.double.read (cb a)).toInt .zero).getD 0 else 0
theorem tk_no {a : Int} (h : tkB (cb a) = false) : 0 = tkI a := by unfold tkI; rw [h, if_neg Bool.false_ne_true]
theorem tk_fin {x : Nat} (h : tkB x = true) : rg x < infR ∧ nanB x = false ∧ sv 14114281232179134464 ≤ sv x ∧ sv x < sv 4890909195324358656 := by
  simp only [tkB, Bool.and_eq_true, Bool.not_eq_true', decide_eq_true_eq] at h
  obtain ⟨⟨h1, h2⟩, h3⟩ := h
  refine ⟨?_, h1, h2, h3⟩
  have := nan_fin h1
  by_cases e : rg x = infR
  · have hl := rv_lt (show rg 4890909195324358656 < infR by decide)
    have e1 : sv 4890909195324358656 = rv (rg 4890909195324358656) := by unfold sv; rw [show ng 4890909195324358656 = false by decide]; rfl
    have e2 : sv 14114281232179134464 = -(rv (rg 4890909195324358656) : Int) := by unfold sv; rw [show ng 14114281232179134464 = true by decide, show rg 14114281232179134464 = rg 4890909195324358656 by decide]; rfl
    rw [e1] at h3; rw [e2] at h2
    unfold sv at h2 h3; rw [e] at h2 h3
    generalize rv infR = V at *
    generalize rv (rg 4890909195324358656) = U at *
    cases hn : ng x
    · rw [hn] at h2 h3; simp at h2 h3; omega
    · rw [hn] at h2 h3; simp at h2 h3; omega
  · omega
theorem tk_val {x : Nat} (h : tkB x = true) : ∃ n, (Ieee.double.read x).toInt .zero = some n ∧ -9223372036854775808 ≤ n ∧ n ≤ 9223372036854775807 := by
  obtain ⟨h1, h2, h3, h4⟩ := tk_fin h
  rw [sv_me] at h3; rw [sv_pe] at h4
  refine ⟨_, toInt_fin x h1, ?_⟩
  have hu := uu_pos
  unfold sv at h3 h4
  cases hn : ng x
  · rw [hn] at h3 h4; simp only [Bool.false_eq_true, if_false] at h3 h4 ⊢
    have : rv (rg x) / uu < 9223372036854775808 := by rw [Nat.div_lt_iff_lt_mul hu]; omega
    generalize rv (rg x) / uu = D at *
    omega
  · rw [hn] at h3 h4; simp only [if_true] at h3 h4 ⊢
    have : rv (rg x) / uu ≤ 9223372036854775808 := Nat.div_le_of_le_mul (by rw [Nat.mul_comm]; omega)
    generalize rv (rg x) / uu = D at *
    omega
theorem val_some {x : Nat} {n : Int} (h : (Ieee.double.read x).toInt .zero = some n) (h1 : -9223372036854775808 ≤ n) (h2 : n ≤ 9223372036854775807) : floatToIntVal .f64 x .i64 = some n := by
  unfold floatToIntVal
  have e : (FloatKind.f64.decode x).toInt .zero = some n := h
  rw [e]
  simp only
  rw [if_pos ⟨by simpa [IntKind.min, IntKind.signed, IntKind.bits] using h1, by simpa [IntKind.max, IntKind.signed, IntKind.bits] using h2⟩]

/-! ### Put, Take -/
def puI (n : Int) : Int := tld (floatOfInt .f64 n)
theorem put_any (n : Int) (w : World) :
    Calls Try.prog 22 #[.int .i64 n] w fun e w' => e = .returned (.int .i64 (puI n)) ∧ w = w' := by
  go_enter Try.func22, Try.ntmps22
  go_wp2_with (go_at_call 25; refine (told_any _ _).mono ?_; rintro e w' ⟨rfl, rfl⟩)
  go_ret
  exact ⟨rfl, rfl⟩
theorem rput_any (n : Int) (w : World) :
    Calls Try.prog 23 #[.int .i64 n] w fun e w' => e = .returned (.int .i64 (puI n)) ∧ w = w' := by
  go_enter Try.func23, Try.ntmps23
  go_wp2_with (go_at_call 28; refine (rcell_any _ _).mono ?_; rintro e w' ⟨rfl, rfl⟩)
  go_ret
  exact ⟨rfl, rfl⟩
theorem take_any (a : Int) (w : World) :
    Calls Try.prog 20 #[.int .i64 a] w fun e w' => e = .returned (.tuple #[.int .i64 (tkI a), .bool (tkB (cb a))]) ∧ w = w' := by
  cases h : tkB (cb a)
  · have H := Lib.hid (tk_no h)
    cases hx : nanB (cb a)
    · have hg := geq_num (cb a) 14114281232179134464 hx (by decide)
      have hl := lt_num (cb a) 4890909195324358656 hx (by decide)
      unfold tkB at h
      rw [hx] at h
      by_cases h1 : sv 14114281232179134464 ≤ sv (cb a)
      · have h2 : ¬ sv (cb a) < sv 4890909195324358656 := by
          intro k; rw [decide_eq_true h1, decide_eq_true k] at h; cases h
        have t1 : (FloatKind.f64.format.order (cb a) 14114281232179134464 == some .gt || FloatKind.f64.format.order (cb a) 14114281232179134464 == some .eq) = true := hg.trans (decide_eq_true h1)
        have t2 : (FloatKind.f64.format.order (cb a) 4890909195324358656 == some .lt) = false := hl.trans (decide_eq_false h2)
        clear h hg hl h1 h2 hx
        go_enter Try.func20, Try.ntmps20
        go_wp2_with (go_at_call 26; refine (float_any _ _).mono ?_; rintro e w' ⟨rfl, rfl⟩)
        go_ret2
        exact ⟨retIB H.out rfl, rfl⟩
      · have t1 : (FloatKind.f64.format.order (cb a) 14114281232179134464 == some .gt || FloatKind.f64.format.order (cb a) 14114281232179134464 == some .eq) = false := hg.trans (decide_eq_false h1)
        clear h hg hl h1 hx
        go_enter Try.func20, Try.ntmps20
        go_wp2_with (go_at_call 26; refine (float_any _ _).mono ?_; rintro e w' ⟨rfl, rfl⟩)
        go_ret2
        exact ⟨retIB H.out rfl, rfl⟩
    · have ho : FloatKind.f64.format.order (cb a) 14114281232179134464 = none := order_nan _ _ (.inl hx)
      have t1 : (FloatKind.f64.format.order (cb a) 14114281232179134464 == some .gt || FloatKind.f64.format.order (cb a) 14114281232179134464 == some .eq) = false := by rw [ho]; rfl
      clear h hx ho
      go_enter Try.func20, Try.ntmps20
      go_wp2_with (go_at_call 26; refine (float_any _ _).mono ?_; rintro e w' ⟨rfl, rfl⟩)
      go_ret2
      exact ⟨retIB H.out rfl, rfl⟩
  · obtain ⟨n, hn, n1, n2⟩ := tk_val h
    obtain ⟨_, hx, h1, h2⟩ := tk_fin h
    have hg := geq_num (cb a) 14114281232179134464 hx (by decide)
    have hl := lt_num (cb a) 4890909195324358656 hx (by decide)
    have t1 : (FloatKind.f64.format.order (cb a) 14114281232179134464 == some .gt || FloatKind.f64.format.order (cb a) 14114281232179134464 == some .eq) = true := hg.trans (decide_eq_true h1)
    have t2 : (FloatKind.f64.format.order (cb a) 4890909195324358656 == some .lt) = true := hl.trans (decide_eq_true h2)
    have H := Lib.hid (show n = tkI a by unfold tkI; rw [h, if_pos rfl, hn]; rfl)
    have hc := fun w => run_convert_float_int (P := Try.prog) w 39 3 .f64 .i64 (cb a) n (by kernel_rfl) Try.underlying3 (val_some hn n1 n2)
    clear h hg hl h1 h2 hx hn n1 n2
    go_enter Try.func20, Try.ntmps20
    go_wp2_with (go_at_call 26; refine (float_any _ _).mono ?_; rintro e w' ⟨rfl, rfl⟩)
    go_ret2
    exact ⟨retIB H.out rfl, rfl⟩
theorem trunc_any (x : Nat) (h : nanB x = false) (w : World) :
    Calls Try.prog 34 #[.float .f64 x] w fun e w' => e = .returned (.float .f64 (trB x)) ∧ w = w' := by
  have hd := run_trunc_ok x h
  clear h
  go_enter Try.func34, Try.ntmps34
  go_wp2
  go_ret
  exact ⟨rfl, rfl⟩
theorem rtake_any (a : Int) (w : World) :
    Calls Try.prog 21 #[.int .i64 a] w fun e w' => e = .returned (.tuple #[.int .i64 (tkI a), .bool (tkB (cb a))]) ∧ w = w' := by
  have hd := run_cb a
  have ho := order_self (cb a)
  cases h : tkB (cb a)
  · have H := Lib.hid (tk_no h)
    cases hx : nanB (cb a)
    · have t0 : (FloatKind.f64.format.order (cb a) (cb a) != some .eq) = false := by rw [bne, show (FloatKind.f64.format.order (cb a) (cb a) == some .eq) = _ from ho, hx]; rfl
      have hl := lt_num (cb a) 14114281232179134464 hx (by decide)
      have hg := geq_num (cb a) 4890909195324358656 hx (by decide)
      unfold tkB at h
      rw [hx] at h
      by_cases h1 : sv 14114281232179134464 ≤ sv (cb a)
      · have h2 : sv 4890909195324358656 ≤ sv (cb a) := by
          by_cases k : sv (cb a) < sv 4890909195324358656
          · rw [decide_eq_true h1, decide_eq_true k] at h; cases h
          · omega
        have t1 : (FloatKind.f64.format.order (cb a) 14114281232179134464 == some .lt) = false := hl.trans (decide_eq_false (by omega))
        have t2 : (FloatKind.f64.format.order (cb a) 4890909195324358656 == some .gt || FloatKind.f64.format.order (cb a) 4890909195324358656 == some .eq) = true := hg.trans (decide_eq_true h2)
        clear h hg hl h1 h2 hx ho
        go_enter Try.func21, Try.ntmps21
        go_wp2
        go_ret2
        exact ⟨retIB H.out rfl, rfl⟩
      · have t1 : (FloatKind.f64.format.order (cb a) 14114281232179134464 == some .lt) = true := hl.trans (decide_eq_true (by omega))
        clear h hg hl h1 hx ho
        go_enter Try.func21, Try.ntmps21
        go_wp2
        go_ret2
        exact ⟨retIB H.out rfl, rfl⟩
    · have t0 : (FloatKind.f64.format.order (cb a) (cb a) != some .eq) = true := by rw [bne, show (FloatKind.f64.format.order (cb a) (cb a) == some .eq) = _ from ho, hx]; rfl
      clear h hx ho
      go_enter Try.func21, Try.ntmps21
      go_wp2
      go_ret2
      exact ⟨retIB H.out rfl, rfl⟩
  · obtain ⟨n, hn, n1, n2⟩ := tk_val h
    obtain ⟨hf, hx, h1, h2⟩ := tk_fin h
    have hl := lt_num (cb a) 14114281232179134464 hx (by decide)
    have hg := geq_num (cb a) 4890909195324358656 hx (by decide)
    have t0 : (FloatKind.f64.format.order (cb a) (cb a) != some .eq) = false := by rw [bne, show (FloatKind.f64.format.order (cb a) (cb a) == some .eq) = _ from ho, hx]; rfl
    have t1 : (FloatKind.f64.format.order (cb a) 14114281232179134464 == some .lt) = false := hl.trans (decide_eq_false (by omega))
    have t2 : (FloatKind.f64.format.order (cb a) 4890909195324358656 == some .gt || FloatKind.f64.format.order (cb a) 4890909195324358656 == some .eq) = false := hg.trans (decide_eq_false (by omega))
    have H := Lib.hid (show n = tkI a by unfold tkI; rw [h, if_pos rfl, hn]; rfl)
    have HX := Lib.hid hx
    have hc := fun w => run_convert_float_int (P := Try.prog) w 39 3 .f64 .i64 (trB (cb a)) n (by kernel_rfl) Try.underlying3 (val_some ((toInt_tr _ hf).trans hn) n1 n2)
    clear h hg hl h1 h2 hx hn n1 n2 ho hf
    go_enter Try.func21, Try.ntmps21
    go_wp2_with (go_at_call 34; refine (trunc_any _ HX.out _).mono ?_; rintro e w' ⟨rfl, rfl⟩)
    go_ret2
    exact ⟨retIB H.out rfl, rfl⟩

/-! ### there and back -/
theorem cb_wrap (x : Nat) (h : x < 18446744073709551616) : cb (wrap64 x) = x := by
  unfold cb wrap64; rw [uw]; omega
theorem pu_word (n : Int) (hn : -9223372036854775808 ≤ n ∧ n ≤ 9223372036854775807) : ∃ q, cb (puI n) = Ieee.double.word (decide (n < 0)) q ∧ q ≤ infR ∧
    (∀ s, s ≤ infR → rv s ≤ n.natAbs * uu → s ≤ q) ∧ (∀ s, n.natAbs * uu ≤ rv s → q ≤ s) := by
  obtain ⟨q, hq, hw, k1, k2⟩ := nearest_rung (decide (n < 0)) n.natAbs 0 (by omega)
  rw [uu_of _ (show ((0 : Int) + 1074).toNat = kk from rfl)] at k1 k2
  have e : floatOfInt .f64 n = Ieee.double.word (decide (n < 0)) q := hw
  refine ⟨q, ?_, hq, k1, k2⟩
  unfold puI
  rw [e, ← tld_num (nan_word _ _ hq)]
  refine cb_wrap _ ?_
  have := lt63 hq
  rw [word_eq]; cases decide (n < 0) <;> simp <;> omega
theorem tk_small (n : Int) (h : -9007199254740992 ≤ n ∧ n ≤ 9007199254740992) : tkB (cb (puI n)) = true ∧ tkI (puI n) = n := by
  obtain ⟨q, e, hq, k1, k2⟩ := pu_word n (by omega)
  obtain ⟨t, ht, hr⟩ := rep n.natAbs (by omega)
  have hqt : q = t := Nat.le_antisymm (k2 t (by omega)) (k1 t (by omega) (by omega))
  subst hqt
  have hu := uu_pos
  have l := lt63 hq
  have hb : n.natAbs * uu ≤ 9007199254740992 * uu := Nat.mul_le_mul_right _ (by omega)
  have hk : tkB (cb (puI n)) = true := by
    unfold tkB
    rw [e, nan_word _ _ hq, sv_word _ _ hq, sv_me, sv_pe, hr]
    simp only [Bool.not_false, Bool.true_and, Bool.and_eq_true, decide_eq_true_eq]
    have : 9007199254740992 * uu < 9223372036854775808 * uu := Nat.mul_lt_mul_of_pos_right (by omega) hu
    split <;> omega
  refine ⟨hk, ?_⟩
  unfold tkI
  rw [hk, if_pos rfl, e, toInt_fin _ (by rw [rg_word _ _ l]; exact ht), rg_word _ _ l, ng_word _ _ l, hr, Nat.mul_div_cancel _ hu]
  show (if decide (n < 0) = true then _ else _) = _
  by_cases h0 : n < 0
  · rw [if_pos (by simpa using h0)]; omega
  · rw [if_neg (by simpa using h0)]; omega
theorem tk_most (n : Int) (h : -9223372036854775808 ≤ n ∧ n ≤ 4611686018427387904) : tkB (cb (puI n)) = true := by
  obtain ⟨q, e, hq, k1, k2⟩ := pu_word n (by omega)
  have hu := uu_pos
  have e2 := rv_two 1084 62 rfl
  have e3 := rv_two 1085 63 rfl
  rw [show (2 : Nat) ^ 62 = 4611686018427387904 by decide] at e2
  rw [show (2 : Nat) ^ 63 = 9223372036854775808 by decide] at e3
  have hlt : 4611686018427387904 * uu < 9223372036854775808 * uu := Nat.mul_lt_mul_of_pos_right (by omega) hu
  unfold tkB
  rw [e, nan_word _ _ hq, sv_word _ _ hq, sv_me, sv_pe]
  simp only [Bool.not_false, Bool.true_and, Bool.and_eq_true, decide_eq_true_eq]
  by_cases h0 : n < 0
  · have hb : n.natAbs * uu ≤ 9223372036854775808 * uu := Nat.mul_le_mul_right _ (by omega)
    have := rv_le (k2 _ (by rw [e3]; exact hb))
    rw [e3] at this
    rw [if_pos h0]
    have : 0 < 9223372036854775808 * uu := by omega
    omega
  · have hb : n.natAbs * uu ≤ 4611686018427387904 * uu := Nat.mul_le_mul_right _ (by omega)
    have := rv_le (k2 _ (by rw [e2]; exact hb))
    rw [e2] at this
    rw [if_neg h0]
    omega
end Go.Proofs.Ytbgaoipgfmaijaa
