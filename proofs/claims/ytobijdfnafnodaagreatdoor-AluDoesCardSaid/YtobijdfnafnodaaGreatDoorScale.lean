/- cell.Scale: its contract. -/
import Derived.Test.YtobijdfnafnodaaGreatDoorRefWalk
import Derived.Test.YtobijdfnafnodaaGreatDoorDiv64
import Derived.Deep.RegionWith
import Derived.Deep.DeepMust
namespace Go.Proofs.YtobijdfnafnodaaGreatDoor.Ce
set_option maxRecDepth 100000
open Go.ChangeShapes Go.WideShapes Go.ChangeAt Go.RowKit
set_option linter.unusedVariables false

theorem mul_any (x y : Int) (w : World) (x0 : 0 ≤ x) (x1 : x ≤ 18446744073709551615) (y0 : 0 ≤ y) (y1 : y ≤ 18446744073709551615) :
    Calls Tryz.prog 161 #[.int .u64 x, .int .u64 y] w fun e w' => e = .returned (.tuple #[.int .u64 (x * y / 18446744073709551616), .int .u64 (x * y % 18446744073709551616)]) ∧ w = w' := by
  obtain ⟨a, rfl⟩ := Int.eq_ofNat_of_zero_le x0
  obtain ⟨b, rfl⟩ := Int.eq_ofNat_of_zero_le y0
  refine (Tryz.bits_Mul64 a b (by omega) (by omega) w).mono ?_
  rintro e w' ⟨rfl, rfl⟩
  exact ⟨by rfl, rfl⟩
theorem product_any (x y : Int) (w : World) (x0 : 0 ≤ x) (x1 : x ≤ 18446744073709551615) (y0 : 0 ≤ y) (y1 : y ≤ 18446744073709551615) :
    Calls Tryz.prog 147 #[.int .u64 x, .int .u64 y] w fun e w' => e = .returned (.agg #[.int .u64 (x * y / 18446744073709551616), .int .u64 (x * y % 18446744073709551616)]) ∧
      w.alloc (.cells #[.int .u64 (x * y / 18446744073709551616), .int .u64 (x * y % 18446744073709551616)] 109) = w' := by
  go_enter Tryz.func147, Tryz.ntmps147
  go_wp2_with (go_at_call 161; refine (mul_any _ _ _ x0 x1 y0 y1).mono ?_; rintro e w' ⟨rfl, rfl⟩)
  exact bodyPost_ret (v := .agg #[.int .u64 (x * y / 18446744073709551616), .int .u64 (x * y % 18446744073709551616)]) (by simp [results, Tryz.results147, go_sem]) rfl ⟨rfl, rfl⟩

theorem retIB {a a' : Int} {b b' : Bool} (h1 : a = a') (h2 : b = b') : Ending.returned (.tuple #[.int .i64 a, .bool b]) = .returned (.tuple #[.int .i64 a', .bool b']) := by rw [h1, h2]
theorem newcell_at (W : World) (v : Value) (T : TypeId) (b : Nat) (hb : b = W.heap.size) : (W.alloc (.cells #[v] T)).cell? ⟨b, 0, none⟩ = some v := by
  subst hb; exact newcell W v T
theorem signed_neg (x : Int) (w : World) (x0 : 0 ≤ x) (x1 : x ≤ 9223372036854775808) :
    Calls Tryz.prog 150 #[.int .u64 x, .bool true] w fun e w' => e = .returned (.tuple #[.int .i64 (-x), .bool true]) ∧ w = w' := by
  have e : wrap64 (IntKind.u64.wrap (-x)) = -x := by rw [uw]; unfold wrap64; omega
  have d : decide (x ≤ 9223372036854775808) = true := by simpa using x1
  go_enter Tryz.func150, Tryz.ntmps150
  go_wp2
  go_ret2
  exact ⟨retIB e rfl, rfl⟩
theorem signed_negbad (x : Int) (w : World) (x0 : 9223372036854775808 < x) (x1 : x ≤ 18446744073709551615) :
    Calls Tryz.prog 150 #[.int .u64 x, .bool true] w fun e w' => e = .returned (.tuple #[.int .i64 (wrap64 (-x)), .bool false]) ∧ w = w' := by
  have e : wrap64 (IntKind.u64.wrap (-x)) = wrap64 (-x) := by rw [uw]; unfold wrap64; omega
  have d : decide (x ≤ 9223372036854775808) = false := by simpa using x0
  go_enter Tryz.func150, Tryz.ntmps150
  go_wp2
  go_ret2
  exact ⟨retIB e rfl, rfl⟩
theorem signed_pos (x : Int) (w : World) (x0 : 0 ≤ x) (x1 : x ≤ 9223372036854775807) :
    Calls Tryz.prog 150 #[.int .u64 x, .bool false] w fun e w' => e = .returned (.tuple #[.int .i64 x, .bool true]) ∧ w = w' := by
  have d : decide (x ≤ 9223372036854775807) = true := by simpa using x1
  go_enter Tryz.func150, Tryz.ntmps150
  go_wp2
  go_ret2
  exact ⟨rfl, rfl⟩
theorem signed_posbad (x : Int) (w : World) (x0 : 9223372036854775808 ≤ x) (x1 : x ≤ 18446744073709551615) :
    Calls Tryz.prog 150 #[.int .u64 x, .bool false] w fun e w' => e = .returned (.tuple #[.int .i64 (wrap64 x), .bool false]) ∧ w = w' := by
  have d : decide (x ≤ 9223372036854775807) = false := by simp; omega
  go_enter Tryz.func150, Tryz.ntmps150
  go_wp2
  go_ret2
  exact ⟨rfl, rfl⟩
theorem div64_N (N hi lo y : Int) (w : World) (hN : N = hi * 18446744073709551616 + lo) (h1 : 0 ≤ hi) (h2 : hi < y) (h3 : y ≤ 18446744073709551615) (h4 : 0 ≤ lo) (h5 : lo ≤ 18446744073709551615) :
    Calls Tryz.prog 149 #[.int .u64 hi, .int .u64 lo, .int .u64 y] w fun e w' => e = .returned (.tuple #[.int .u64 (N / y), .int .u64 (N % y)]) ∧ ∃ n, w' = w.drewN n := by
  rw [hN]; exact div64_any hi lo y w h1 h2 h3 h4 h5
theorem keep_mk {c r : Int} (h : r = 0 ∨ (r < 0 ↔ c < 0)) : dbKeep c r = true := keep_iff.2 h
theorem keep_no {c r : Int} (h : ¬ (r = 0 ∨ (r < 0 ↔ c < 0))) : dbKeep c r = false := by rw [Bool.eq_false_iff]; exact fun k => h (keep_iff.1 k)
def EndsB (x y : Int) (z : Bool) (w : World) (e : Ending) (w' : World) : Prop := e = .returned (.tuple #[.int .i64 x, .int .i64 y, .bool z]) ∧ Below w.heap.size w w'

set_option maxHeartbeats 2000000 in
theorem cs_nnn (a b c A C q0 r0 : Int) (w : World) (ha : -9223372036854775808 ≤ a ∧ a ≤ 9223372036854775807) (hb : -9223372036854775808 ≤ b ∧ b ≤ 9223372036854775807) (hc : -9223372036854775808 ≤ c ∧ c ≤ 9223372036854775807)
    (hcb : (c == 0) = false) (h0 : ¬ c = 0) (S : Hid (Sc a b c A C q0 r0)) (hbig : ¬ C ≤ A / 18446744073709551616) (n1 : a < 0) (n2 : b < 0) (n3 : c < 0) :
    Calls Tryz.prog 123 #[.int .i64 a, .int .i64 b, .int .i64 c] w (EndsB (scQ (a * b) c) (scR (a * b) c) (scO (a * b) c) w) := by
  have hsa := abs_bd a ha
  have hsb := abs_bd b hb
  have s := S.out
  have s1 := s.A0; have s2 := s.A1; have s3 := s.C0; have s4 := s.C1; have s5 := s.qn; have s6 := s.rn; have s7 := s.rl
  have eA := s.eA; have eC := s.eC; have eq := s.eq; have er := s.er
  have s8 := s.lim (by omega)
  clear s
  have HC := Lib.hid (S.out.cneg n3)
  have d1 : decide (a < 0) = true := by simpa using n1
  have d2 : decide (b < 0) = true := by simpa using n2
  have d3 : decide (c < 0) = true := by simpa using n3
  have hm : minus a b ≠ decide (c < 0) := by simp [minus, n1, n2, n3]
  have hmm : minus a b = false := by simp [minus, n1, n2]
  by_cases hr : r0 = 0
  · have K := S.out.even h0 hm hr
    have K2 := S.out.big
    have HK := Lib.hid (keep_mk (c := c) (r := r0) (by omega))
    have HR := Lib.hid hr
    clear hr
    by_cases hq : q0 ≤ 9223372036854775808
    · obtain ⟨k1, k2, k3⟩ := K hq
      rw [k1, k2, k3]
      clear k1 k2 k3 K K2 hm hmm
      go_enter Tryz.func123, Tryz.ntmps123
      go_wp2_with (first | (go_at_call_of 148 a; refine (size_any a _ ha).mono ?_; rintro e w' ⟨rfl, rfl⟩) | (go_at_call_of 148 b; refine (size_any b _ hb).mono ?_; rintro e w' ⟨rfl, rfl⟩) | (go_at_call_of 148 c; refine (size_any c _ hc).mono ?_; rintro e w' ⟨rfl, rfl⟩) | (go_at_call 147; refine (product_any _ _ _ (by omega) (by omega) (by omega) (by omega)).mono ?_; rintro e w' ⟨rfl, rfl⟩) | (go_at_call 149; refine (div64_N A _ _ _ _ (by omega) (by omega) (by omega) (by omega) (by omega) (by omega)).mono ?_; rintro e w' ⟨rfl, n, rfl⟩) | (go_at_call_of 150 q0; refine (signed_neg q0 _ (by omega) (by omega)).mono ?_; rintro e w' ⟨rfl, rfl⟩) | (go_at_call_of 150 r0; refine (signed_pos r0 _ (by omega) (by omega)).mono ?_; rintro e w' ⟨rfl, rfl⟩) | (go_at_call 146; refine (downby_any _ _).mono ?_; rintro e w' ⟨rfl, rfl⟩) | (go_at_call 160; refine (down_keep c (-q0) (r0) _ _ ?_ HK.out).mono ?_; exact newcell_at _ _ _ _ (by simp); rintro e w' ⟨rfl, n2, rfl⟩))
      go_ret3
      have hr := HR.out
      refine ⟨retT ?_ ?_ rfl, ?_⟩
      case refine_3 => exact below_drewN ((below_drewN (((Below.refl _ _).alloc (by simp) _).alloc (by simp) _) _).alloc (by simp; omega) _) _
      all_goals first | rfl | omega | (unfold wrap64; omega)
    · obtain ⟨k1, k2, k3⟩ := K2 (by omega)
      rw [k1, k2, k3]
      clear k1 k2 k3 K K2 hm hmm
      go_enter Tryz.func123, Tryz.ntmps123
      go_wp2_with (first | (go_at_call_of 148 a; refine (size_any a _ ha).mono ?_; rintro e w' ⟨rfl, rfl⟩) | (go_at_call_of 148 b; refine (size_any b _ hb).mono ?_; rintro e w' ⟨rfl, rfl⟩) | (go_at_call_of 148 c; refine (size_any c _ hc).mono ?_; rintro e w' ⟨rfl, rfl⟩) | (go_at_call 147; refine (product_any _ _ _ (by omega) (by omega) (by omega) (by omega)).mono ?_; rintro e w' ⟨rfl, rfl⟩) | (go_at_call 149; refine (div64_N A _ _ _ _ (by omega) (by omega) (by omega) (by omega) (by omega) (by omega)).mono ?_; rintro e w' ⟨rfl, n, rfl⟩) | (go_at_call_of 150 q0; refine (signed_negbad q0 _ (by omega) (by omega)).mono ?_; rintro e w' ⟨rfl, rfl⟩))
      go_ret3
      have hC := HC.out
      refine ⟨retT ?_ ?_ rfl, ?_⟩
      case refine_3 => exact below_drewN (((Below.refl _ _).alloc (by simp) _).alloc (by simp) _) _
      all_goals first | rfl | omega | (unfold wrap64; omega)
  · have K := S.out.odd h0 hm (by omega)
    have HK := Lib.hid (keep_no (c := c) (r := r0) (by have := HC.out; omega))
    by_cases hq : q0 ≤ 9223372036854775807
    · obtain ⟨k1, k2, k3⟩ := K.1 hq
      rw [hmm] at k3
      rw [k1, k2, k3]
      clear k1 k2 k3 K hm hmm
      have hqq : (-q0 == -9223372036854775808) = false := by rw [beq_eq_false_iff_ne]; omega
      have HQ := Lib.hid hqq
      clear hqq
      go_enter Tryz.func123, Tryz.ntmps123
      go_wp2_with (first | (go_at_call_of 148 a; refine (size_any a _ ha).mono ?_; rintro e w' ⟨rfl, rfl⟩) | (go_at_call_of 148 b; refine (size_any b _ hb).mono ?_; rintro e w' ⟨rfl, rfl⟩) | (go_at_call_of 148 c; refine (size_any c _ hc).mono ?_; rintro e w' ⟨rfl, rfl⟩) | (go_at_call 147; refine (product_any _ _ _ (by omega) (by omega) (by omega) (by omega)).mono ?_; rintro e w' ⟨rfl, rfl⟩) | (go_at_call 149; refine (div64_N A _ _ _ _ (by omega) (by omega) (by omega) (by omega) (by omega) (by omega)).mono ?_; rintro e w' ⟨rfl, n, rfl⟩) | (go_at_call_of 150 q0; refine (signed_neg q0 _ (by omega) (by omega)).mono ?_; rintro e w' ⟨rfl, rfl⟩) | (go_at_call_of 150 r0; refine (signed_pos r0 _ (by omega) (by omega)).mono ?_; rintro e w' ⟨rfl, rfl⟩) | (go_at_call 146; refine (downby_any _ _).mono ?_; rintro e w' ⟨rfl, rfl⟩) | (go_at_call 160; refine (down_down c (-q0) (r0) _ _ ?_ HK.out HQ.out).mono ?_; exact newcell_at _ _ _ _ (by simp); rintro e w' ⟨rfl, n2, rfl⟩))
      go_ret3
      have hC := HC.out
      refine ⟨retT ?_ ?_ rfl, ?_⟩
      case refine_3 => exact below_drewN ((below_drewN (((Below.refl _ _).alloc (by simp) _).alloc (by simp) _) _).alloc (by simp; omega) _) _
      all_goals first | rfl | omega | (unfold wrap64; omega)
    · obtain ⟨k1, k2, k3⟩ := K.2 (by omega)
      rw [k1, k2, k3]
      clear k1 k2 k3 K hm hmm
      by_cases hq2 : q0 ≤ 9223372036854775808
      · have hqq : (-q0 == -9223372036854775808) = true := by rw [beq_iff_eq]; omega
        have HQ := Lib.hid hqq
        clear hqq
        go_enter Tryz.func123, Tryz.ntmps123
        go_wp2_with (first | (go_at_call_of 148 a; refine (size_any a _ ha).mono ?_; rintro e w' ⟨rfl, rfl⟩) | (go_at_call_of 148 b; refine (size_any b _ hb).mono ?_; rintro e w' ⟨rfl, rfl⟩) | (go_at_call_of 148 c; refine (size_any c _ hc).mono ?_; rintro e w' ⟨rfl, rfl⟩) | (go_at_call 147; refine (product_any _ _ _ (by omega) (by omega) (by omega) (by omega)).mono ?_; rintro e w' ⟨rfl, rfl⟩) | (go_at_call 149; refine (div64_N A _ _ _ _ (by omega) (by omega) (by omega) (by omega) (by omega) (by omega)).mono ?_; rintro e w' ⟨rfl, n, rfl⟩) | (go_at_call_of 150 q0; refine (signed_neg q0 _ (by omega) (by omega)).mono ?_; rintro e w' ⟨rfl, rfl⟩) | (go_at_call_of 150 r0; refine (signed_pos r0 _ (by omega) (by omega)).mono ?_; rintro e w' ⟨rfl, rfl⟩) | (go_at_call 146; refine (downby_any _ _).mono ?_; rintro e w' ⟨rfl, rfl⟩) | (go_at_call 160; refine (down_none c (-q0) (r0) _ _ ?_ HK.out HQ.out).mono ?_; exact newcell_at _ _ _ _ (by simp); rintro e w' ⟨rfl, n2, rfl⟩))
        go_ret3
        have hC := HC.out
        refine ⟨retT ?_ ?_ rfl, ?_⟩
        case refine_3 => exact below_drewN ((below_drewN (((Below.refl _ _).alloc (by simp) _).alloc (by simp) _) _).alloc (by simp; omega) _) _
        all_goals first | rfl | omega | (unfold wrap64; omega)
      · skip
        go_enter Tryz.func123, Tryz.ntmps123
        go_wp2_with (first | (go_at_call_of 148 a; refine (size_any a _ ha).mono ?_; rintro e w' ⟨rfl, rfl⟩) | (go_at_call_of 148 b; refine (size_any b _ hb).mono ?_; rintro e w' ⟨rfl, rfl⟩) | (go_at_call_of 148 c; refine (size_any c _ hc).mono ?_; rintro e w' ⟨rfl, rfl⟩) | (go_at_call 147; refine (product_any _ _ _ (by omega) (by omega) (by omega) (by omega)).mono ?_; rintro e w' ⟨rfl, rfl⟩) | (go_at_call 149; refine (div64_N A _ _ _ _ (by omega) (by omega) (by omega) (by omega) (by omega) (by omega)).mono ?_; rintro e w' ⟨rfl, n, rfl⟩) | (go_at_call_of 150 q0; refine (signed_negbad q0 _ (by omega) (by omega)).mono ?_; rintro e w' ⟨rfl, rfl⟩))
        go_ret3
        have hC := HC.out
        refine ⟨retT ?_ ?_ rfl, ?_⟩
        case refine_3 => exact below_drewN (((Below.refl _ _).alloc (by simp) _).alloc (by simp) _) _
        all_goals first | rfl | omega | (unfold wrap64; omega)
set_option maxHeartbeats 2000000 in
theorem cs_nnp (a b c A C q0 r0 : Int) (w : World) (ha : -9223372036854775808 ≤ a ∧ a ≤ 9223372036854775807) (hb : -9223372036854775808 ≤ b ∧ b ≤ 9223372036854775807) (hc : -9223372036854775808 ≤ c ∧ c ≤ 9223372036854775807)
    (hcb : (c == 0) = false) (h0 : ¬ c = 0) (S : Hid (Sc a b c A C q0 r0)) (hbig : ¬ C ≤ A / 18446744073709551616) (n1 : a < 0) (n2 : b < 0) (n3 : ¬ c < 0) :
    Calls Tryz.prog 123 #[.int .i64 a, .int .i64 b, .int .i64 c] w (EndsB (scQ (a * b) c) (scR (a * b) c) (scO (a * b) c) w) := by
  have hsa := abs_bd a ha
  have hsb := abs_bd b hb
  have s := S.out
  have s1 := s.A0; have s2 := s.A1; have s3 := s.C0; have s4 := s.C1; have s5 := s.qn; have s6 := s.rn; have s7 := s.rl
  have eA := s.eA; have eC := s.eC; have eq := s.eq; have er := s.er
  have s8 := s.lim (by omega)
  clear s
  have HC := Lib.hid (S.out.cpos n3)
  have d1 : decide (a < 0) = true := by simpa using n1
  have d2 : decide (b < 0) = true := by simpa using n2
  have d3 : decide (c < 0) = false := by simpa using n3
  have hm : minus a b = decide (c < 0) := by simp [minus, n1, n2, n3]
  have K := S.out.same h0 hm
  have HK := Lib.hid (keep_mk (c := c) (r := r0) (by have := HC.out; omega))
  by_cases hq : q0 ≤ 9223372036854775807
  · obtain ⟨k1, k2, k3⟩ := K.1 hq
    rw [if_neg n3] at k3
    rw [k1, k2, k3]
    clear k1 k2 k3 K hm
    go_enter Tryz.func123, Tryz.ntmps123
    go_wp2_with (first | (go_at_call_of 148 a; refine (size_any a _ ha).mono ?_; rintro e w' ⟨rfl, rfl⟩) | (go_at_call_of 148 b; refine (size_any b _ hb).mono ?_; rintro e w' ⟨rfl, rfl⟩) | (go_at_call_of 148 c; refine (size_any c _ hc).mono ?_; rintro e w' ⟨rfl, rfl⟩) | (go_at_call 147; refine (product_any _ _ _ (by omega) (by omega) (by omega) (by omega)).mono ?_; rintro e w' ⟨rfl, rfl⟩) | (go_at_call 149; refine (div64_N A _ _ _ _ (by omega) (by omega) (by omega) (by omega) (by omega) (by omega)).mono ?_; rintro e w' ⟨rfl, n, rfl⟩) | (go_at_call_of 150 q0; refine (signed_pos q0 _ (by omega) (by omega)).mono ?_; rintro e w' ⟨rfl, rfl⟩) | (go_at_call_of 150 r0; refine (signed_pos r0 _ (by omega) (by omega)).mono ?_; rintro e w' ⟨rfl, rfl⟩) | (go_at_call 146; refine (downby_any _ _).mono ?_; rintro e w' ⟨rfl, rfl⟩) | (go_at_call 160; refine (down_keep c (q0) (r0) _ _ ?_ HK.out).mono ?_; exact newcell_at _ _ _ _ (by simp); rintro e w' ⟨rfl, n2, rfl⟩))
    go_ret3
    have hC := HC.out
    refine ⟨retT ?_ ?_ rfl, ?_⟩
    case refine_3 => exact below_drewN ((below_drewN (((Below.refl _ _).alloc (by simp) _).alloc (by simp) _) _).alloc (by simp; omega) _) _
    all_goals first | rfl | omega | (unfold wrap64; omega)
  · obtain ⟨k1, k2, k3⟩ := K.2 (by omega)
    rw [k1, k2, k3]
    clear k1 k2 k3 K hm
    go_enter Tryz.func123, Tryz.ntmps123
    go_wp2_with (first | (go_at_call_of 148 a; refine (size_any a _ ha).mono ?_; rintro e w' ⟨rfl, rfl⟩) | (go_at_call_of 148 b; refine (size_any b _ hb).mono ?_; rintro e w' ⟨rfl, rfl⟩) | (go_at_call_of 148 c; refine (size_any c _ hc).mono ?_; rintro e w' ⟨rfl, rfl⟩) | (go_at_call 147; refine (product_any _ _ _ (by omega) (by omega) (by omega) (by omega)).mono ?_; rintro e w' ⟨rfl, rfl⟩) | (go_at_call 149; refine (div64_N A _ _ _ _ (by omega) (by omega) (by omega) (by omega) (by omega) (by omega)).mono ?_; rintro e w' ⟨rfl, n, rfl⟩) | (go_at_call_of 150 q0; refine (signed_posbad q0 _ (by omega) (by omega)).mono ?_; rintro e w' ⟨rfl, rfl⟩))
    go_ret3
    have hC := HC.out
    refine ⟨retT ?_ ?_ rfl, ?_⟩
    case refine_3 => exact below_drewN (((Below.refl _ _).alloc (by simp) _).alloc (by simp) _) _
    all_goals first | rfl | omega | (unfold wrap64; omega)
set_option maxHeartbeats 2000000 in
theorem cs_npn (a b c A C q0 r0 : Int) (w : World) (ha : -9223372036854775808 ≤ a ∧ a ≤ 9223372036854775807) (hb : -9223372036854775808 ≤ b ∧ b ≤ 9223372036854775807) (hc : -9223372036854775808 ≤ c ∧ c ≤ 9223372036854775807)
    (hcb : (c == 0) = false) (h0 : ¬ c = 0) (S : Hid (Sc a b c A C q0 r0)) (hbig : ¬ C ≤ A / 18446744073709551616) (n1 : a < 0) (n2 : ¬ b < 0) (n3 : c < 0) :
    Calls Tryz.prog 123 #[.int .i64 a, .int .i64 b, .int .i64 c] w (EndsB (scQ (a * b) c) (scR (a * b) c) (scO (a * b) c) w) := by
  have hsa := abs_bd a ha
  have hsb := abs_bd b hb
  have s := S.out
  have s1 := s.A0; have s2 := s.A1; have s3 := s.C0; have s4 := s.C1; have s5 := s.qn; have s6 := s.rn; have s7 := s.rl
  have eA := s.eA; have eC := s.eC; have eq := s.eq; have er := s.er
  have s8 := s.lim (by omega)
  clear s
  have HC := Lib.hid (S.out.cneg n3)
  have d1 : decide (a < 0) = true := by simpa using n1
  have d2 : decide (b < 0) = false := by simpa using n2
  have d3 : decide (c < 0) = true := by simpa using n3
  have hm : minus a b = decide (c < 0) := by simp [minus, n1, n2, n3]
  have K := S.out.same h0 hm
  have HK := Lib.hid (keep_mk (c := c) (r := -r0) (by have := HC.out; omega))
  by_cases hq : q0 ≤ 9223372036854775807
  · obtain ⟨k1, k2, k3⟩ := K.1 hq
    rw [if_pos n3] at k3
    rw [k1, k2, k3]
    clear k1 k2 k3 K hm
    go_enter Tryz.func123, Tryz.ntmps123
    go_wp2_with (first | (go_at_call_of 148 a; refine (size_any a _ ha).mono ?_; rintro e w' ⟨rfl, rfl⟩) | (go_at_call_of 148 b; refine (size_any b _ hb).mono ?_; rintro e w' ⟨rfl, rfl⟩) | (go_at_call_of 148 c; refine (size_any c _ hc).mono ?_; rintro e w' ⟨rfl, rfl⟩) | (go_at_call 147; refine (product_any _ _ _ (by omega) (by omega) (by omega) (by omega)).mono ?_; rintro e w' ⟨rfl, rfl⟩) | (go_at_call 149; refine (div64_N A _ _ _ _ (by omega) (by omega) (by omega) (by omega) (by omega) (by omega)).mono ?_; rintro e w' ⟨rfl, n, rfl⟩) | (go_at_call_of 150 q0; refine (signed_pos q0 _ (by omega) (by omega)).mono ?_; rintro e w' ⟨rfl, rfl⟩) | (go_at_call_of 150 r0; refine (signed_neg r0 _ (by omega) (by omega)).mono ?_; rintro e w' ⟨rfl, rfl⟩) | (go_at_call 146; refine (downby_any _ _).mono ?_; rintro e w' ⟨rfl, rfl⟩) | (go_at_call 160; refine (down_keep c (q0) (-r0) _ _ ?_ HK.out).mono ?_; exact newcell_at _ _ _ _ (by simp); rintro e w' ⟨rfl, n2, rfl⟩))
    go_ret3
    have hC := HC.out
    refine ⟨retT ?_ ?_ rfl, ?_⟩
    case refine_3 => exact below_drewN ((below_drewN (((Below.refl _ _).alloc (by simp) _).alloc (by simp) _) _).alloc (by simp; omega) _) _
    all_goals first | rfl | omega | (unfold wrap64; omega)
  · obtain ⟨k1, k2, k3⟩ := K.2 (by omega)
    rw [k1, k2, k3]
    clear k1 k2 k3 K hm
    go_enter Tryz.func123, Tryz.ntmps123
    go_wp2_with (first | (go_at_call_of 148 a; refine (size_any a _ ha).mono ?_; rintro e w' ⟨rfl, rfl⟩) | (go_at_call_of 148 b; refine (size_any b _ hb).mono ?_; rintro e w' ⟨rfl, rfl⟩) | (go_at_call_of 148 c; refine (size_any c _ hc).mono ?_; rintro e w' ⟨rfl, rfl⟩) | (go_at_call 147; refine (product_any _ _ _ (by omega) (by omega) (by omega) (by omega)).mono ?_; rintro e w' ⟨rfl, rfl⟩) | (go_at_call 149; refine (div64_N A _ _ _ _ (by omega) (by omega) (by omega) (by omega) (by omega) (by omega)).mono ?_; rintro e w' ⟨rfl, n, rfl⟩) | (go_at_call_of 150 q0; refine (signed_posbad q0 _ (by omega) (by omega)).mono ?_; rintro e w' ⟨rfl, rfl⟩))
    go_ret3
    have hC := HC.out
    refine ⟨retT ?_ ?_ rfl, ?_⟩
    case refine_3 => exact below_drewN (((Below.refl _ _).alloc (by simp) _).alloc (by simp) _) _
    all_goals first | rfl | omega | (unfold wrap64; omega)
set_option maxHeartbeats 2000000 in
theorem cs_npp (a b c A C q0 r0 : Int) (w : World) (ha : -9223372036854775808 ≤ a ∧ a ≤ 9223372036854775807) (hb : -9223372036854775808 ≤ b ∧ b ≤ 9223372036854775807) (hc : -9223372036854775808 ≤ c ∧ c ≤ 9223372036854775807)
    (hcb : (c == 0) = false) (h0 : ¬ c = 0) (S : Hid (Sc a b c A C q0 r0)) (hbig : ¬ C ≤ A / 18446744073709551616) (n1 : a < 0) (n2 : ¬ b < 0) (n3 : ¬ c < 0) :
    Calls Tryz.prog 123 #[.int .i64 a, .int .i64 b, .int .i64 c] w (EndsB (scQ (a * b) c) (scR (a * b) c) (scO (a * b) c) w) := by
  have hsa := abs_bd a ha
  have hsb := abs_bd b hb
  have s := S.out
  have s1 := s.A0; have s2 := s.A1; have s3 := s.C0; have s4 := s.C1; have s5 := s.qn; have s6 := s.rn; have s7 := s.rl
  have eA := s.eA; have eC := s.eC; have eq := s.eq; have er := s.er
  have s8 := s.lim (by omega)
  clear s
  have HC := Lib.hid (S.out.cpos n3)
  have d1 : decide (a < 0) = true := by simpa using n1
  have d2 : decide (b < 0) = false := by simpa using n2
  have d3 : decide (c < 0) = false := by simpa using n3
  have hm : minus a b ≠ decide (c < 0) := by simp [minus, n1, n2, n3]
  have hmm : minus a b = true := by simp [minus, n1, n2]
  by_cases hr : r0 = 0
  · have K := S.out.even h0 hm hr
    have K2 := S.out.big
    have HK := Lib.hid (keep_mk (c := c) (r := -r0) (by omega))
    have HR := Lib.hid hr
    clear hr
    by_cases hq : q0 ≤ 9223372036854775808
    · obtain ⟨k1, k2, k3⟩ := K hq
      rw [k1, k2, k3]
      clear k1 k2 k3 K K2 hm hmm
      go_enter Tryz.func123, Tryz.ntmps123
      go_wp2_with (first | (go_at_call_of 148 a; refine (size_any a _ ha).mono ?_; rintro e w' ⟨rfl, rfl⟩) | (go_at_call_of 148 b; refine (size_any b _ hb).mono ?_; rintro e w' ⟨rfl, rfl⟩) | (go_at_call_of 148 c; refine (size_any c _ hc).mono ?_; rintro e w' ⟨rfl, rfl⟩) | (go_at_call 147; refine (product_any _ _ _ (by omega) (by omega) (by omega) (by omega)).mono ?_; rintro e w' ⟨rfl, rfl⟩) | (go_at_call 149; refine (div64_N A _ _ _ _ (by omega) (by omega) (by omega) (by omega) (by omega) (by omega)).mono ?_; rintro e w' ⟨rfl, n, rfl⟩) | (go_at_call_of 150 q0; refine (signed_neg q0 _ (by omega) (by omega)).mono ?_; rintro e w' ⟨rfl, rfl⟩) | (go_at_call_of 150 r0; refine (signed_neg r0 _ (by omega) (by omega)).mono ?_; rintro e w' ⟨rfl, rfl⟩) | (go_at_call 146; refine (downby_any _ _).mono ?_; rintro e w' ⟨rfl, rfl⟩) | (go_at_call 160; refine (down_keep c (-q0) (-r0) _ _ ?_ HK.out).mono ?_; exact newcell_at _ _ _ _ (by simp); rintro e w' ⟨rfl, n2, rfl⟩))
      go_ret3
      have hr := HR.out
      refine ⟨retT ?_ ?_ rfl, ?_⟩
      case refine_3 => exact below_drewN ((below_drewN (((Below.refl _ _).alloc (by simp) _).alloc (by simp) _) _).alloc (by simp; omega) _) _
      all_goals first | rfl | omega | (unfold wrap64; omega)
    · obtain ⟨k1, k2, k3⟩ := K2 (by omega)
      rw [k1, k2, k3]
      clear k1 k2 k3 K K2 hm hmm
      go_enter Tryz.func123, Tryz.ntmps123
      go_wp2_with (first | (go_at_call_of 148 a; refine (size_any a _ ha).mono ?_; rintro e w' ⟨rfl, rfl⟩) | (go_at_call_of 148 b; refine (size_any b _ hb).mono ?_; rintro e w' ⟨rfl, rfl⟩) | (go_at_call_of 148 c; refine (size_any c _ hc).mono ?_; rintro e w' ⟨rfl, rfl⟩) | (go_at_call 147; refine (product_any _ _ _ (by omega) (by omega) (by omega) (by omega)).mono ?_; rintro e w' ⟨rfl, rfl⟩) | (go_at_call 149; refine (div64_N A _ _ _ _ (by omega) (by omega) (by omega) (by omega) (by omega) (by omega)).mono ?_; rintro e w' ⟨rfl, n, rfl⟩) | (go_at_call_of 150 q0; refine (signed_negbad q0 _ (by omega) (by omega)).mono ?_; rintro e w' ⟨rfl, rfl⟩))
      go_ret3
      have hC := HC.out
      refine ⟨retT ?_ ?_ rfl, ?_⟩
      case refine_3 => exact below_drewN (((Below.refl _ _).alloc (by simp) _).alloc (by simp) _) _
      all_goals first | rfl | omega | (unfold wrap64; omega)
  · have K := S.out.odd h0 hm (by omega)
    have HK := Lib.hid (keep_no (c := c) (r := -r0) (by have := HC.out; omega))
    by_cases hq : q0 ≤ 9223372036854775807
    · obtain ⟨k1, k2, k3⟩ := K.1 hq
      rw [hmm] at k3
      rw [k1, k2, k3]
      clear k1 k2 k3 K hm hmm
      have hqq : (-q0 == -9223372036854775808) = false := by rw [beq_eq_false_iff_ne]; omega
      have HQ := Lib.hid hqq
      clear hqq
      go_enter Tryz.func123, Tryz.ntmps123
      go_wp2_with (first | (go_at_call_of 148 a; refine (size_any a _ ha).mono ?_; rintro e w' ⟨rfl, rfl⟩) | (go_at_call_of 148 b; refine (size_any b _ hb).mono ?_; rintro e w' ⟨rfl, rfl⟩) | (go_at_call_of 148 c; refine (size_any c _ hc).mono ?_; rintro e w' ⟨rfl, rfl⟩) | (go_at_call 147; refine (product_any _ _ _ (by omega) (by omega) (by omega) (by omega)).mono ?_; rintro e w' ⟨rfl, rfl⟩) | (go_at_call 149; refine (div64_N A _ _ _ _ (by omega) (by omega) (by omega) (by omega) (by omega) (by omega)).mono ?_; rintro e w' ⟨rfl, n, rfl⟩) | (go_at_call_of 150 q0; refine (signed_neg q0 _ (by omega) (by omega)).mono ?_; rintro e w' ⟨rfl, rfl⟩) | (go_at_call_of 150 r0; refine (signed_neg r0 _ (by omega) (by omega)).mono ?_; rintro e w' ⟨rfl, rfl⟩) | (go_at_call 146; refine (downby_any _ _).mono ?_; rintro e w' ⟨rfl, rfl⟩) | (go_at_call 160; refine (down_down c (-q0) (-r0) _ _ ?_ HK.out HQ.out).mono ?_; exact newcell_at _ _ _ _ (by simp); rintro e w' ⟨rfl, n2, rfl⟩))
      go_ret3
      have hC := HC.out
      refine ⟨retT ?_ ?_ rfl, ?_⟩
      case refine_3 => exact below_drewN ((below_drewN (((Below.refl _ _).alloc (by simp) _).alloc (by simp) _) _).alloc (by simp; omega) _) _
      all_goals first | rfl | omega | (unfold wrap64; omega)
    · obtain ⟨k1, k2, k3⟩ := K.2 (by omega)
      rw [k1, k2, k3]
      clear k1 k2 k3 K hm hmm
      by_cases hq2 : q0 ≤ 9223372036854775808
      · have hqq : (-q0 == -9223372036854775808) = true := by rw [beq_iff_eq]; omega
        have HQ := Lib.hid hqq
        clear hqq
        go_enter Tryz.func123, Tryz.ntmps123
        go_wp2_with (first | (go_at_call_of 148 a; refine (size_any a _ ha).mono ?_; rintro e w' ⟨rfl, rfl⟩) | (go_at_call_of 148 b; refine (size_any b _ hb).mono ?_; rintro e w' ⟨rfl, rfl⟩) | (go_at_call_of 148 c; refine (size_any c _ hc).mono ?_; rintro e w' ⟨rfl, rfl⟩) | (go_at_call 147; refine (product_any _ _ _ (by omega) (by omega) (by omega) (by omega)).mono ?_; rintro e w' ⟨rfl, rfl⟩) | (go_at_call 149; refine (div64_N A _ _ _ _ (by omega) (by omega) (by omega) (by omega) (by omega) (by omega)).mono ?_; rintro e w' ⟨rfl, n, rfl⟩) | (go_at_call_of 150 q0; refine (signed_neg q0 _ (by omega) (by omega)).mono ?_; rintro e w' ⟨rfl, rfl⟩) | (go_at_call_of 150 r0; refine (signed_neg r0 _ (by omega) (by omega)).mono ?_; rintro e w' ⟨rfl, rfl⟩) | (go_at_call 146; refine (downby_any _ _).mono ?_; rintro e w' ⟨rfl, rfl⟩) | (go_at_call 160; refine (down_none c (-q0) (-r0) _ _ ?_ HK.out HQ.out).mono ?_; exact newcell_at _ _ _ _ (by simp); rintro e w' ⟨rfl, n2, rfl⟩))
        go_ret3
        have hC := HC.out
        refine ⟨retT ?_ ?_ rfl, ?_⟩
        case refine_3 => exact below_drewN ((below_drewN (((Below.refl _ _).alloc (by simp) _).alloc (by simp) _) _).alloc (by simp; omega) _) _
        all_goals first | rfl | omega | (unfold wrap64; omega)
      · skip
        go_enter Tryz.func123, Tryz.ntmps123
        go_wp2_with (first | (go_at_call_of 148 a; refine (size_any a _ ha).mono ?_; rintro e w' ⟨rfl, rfl⟩) | (go_at_call_of 148 b; refine (size_any b _ hb).mono ?_; rintro e w' ⟨rfl, rfl⟩) | (go_at_call_of 148 c; refine (size_any c _ hc).mono ?_; rintro e w' ⟨rfl, rfl⟩) | (go_at_call 147; refine (product_any _ _ _ (by omega) (by omega) (by omega) (by omega)).mono ?_; rintro e w' ⟨rfl, rfl⟩) | (go_at_call 149; refine (div64_N A _ _ _ _ (by omega) (by omega) (by omega) (by omega) (by omega) (by omega)).mono ?_; rintro e w' ⟨rfl, n, rfl⟩) | (go_at_call_of 150 q0; refine (signed_negbad q0 _ (by omega) (by omega)).mono ?_; rintro e w' ⟨rfl, rfl⟩))
        go_ret3
        have hC := HC.out
        refine ⟨retT ?_ ?_ rfl, ?_⟩
        case refine_3 => exact below_drewN (((Below.refl _ _).alloc (by simp) _).alloc (by simp) _) _
        all_goals first | rfl | omega | (unfold wrap64; omega)
set_option maxHeartbeats 2000000 in
theorem cs_pnn (a b c A C q0 r0 : Int) (w : World) (ha : -9223372036854775808 ≤ a ∧ a ≤ 9223372036854775807) (hb : -9223372036854775808 ≤ b ∧ b ≤ 9223372036854775807) (hc : -9223372036854775808 ≤ c ∧ c ≤ 9223372036854775807)
    (hcb : (c == 0) = false) (h0 : ¬ c = 0) (S : Hid (Sc a b c A C q0 r0)) (hbig : ¬ C ≤ A / 18446744073709551616) (n1 : ¬ a < 0) (n2 : b < 0) (n3 : c < 0) :
    Calls Tryz.prog 123 #[.int .i64 a, .int .i64 b, .int .i64 c] w (EndsB (scQ (a * b) c) (scR (a * b) c) (scO (a * b) c) w) := by
  have hsa := abs_bd a ha
  have hsb := abs_bd b hb
  have s := S.out
  have s1 := s.A0; have s2 := s.A1; have s3 := s.C0; have s4 := s.C1; have s5 := s.qn; have s6 := s.rn; have s7 := s.rl
  have eA := s.eA; have eC := s.eC; have eq := s.eq; have er := s.er
  have s8 := s.lim (by omega)
  clear s
  have HC := Lib.hid (S.out.cneg n3)
  have d1 : decide (a < 0) = false := by simpa using n1
  have d2 : decide (b < 0) = true := by simpa using n2
  have d3 : decide (c < 0) = true := by simpa using n3
  have hm : minus a b = decide (c < 0) := by simp [minus, n1, n2, n3]
  have K := S.out.same h0 hm
  have HK := Lib.hid (keep_mk (c := c) (r := -r0) (by have := HC.out; omega))
  by_cases hq : q0 ≤ 9223372036854775807
  · obtain ⟨k1, k2, k3⟩ := K.1 hq
    rw [if_pos n3] at k3
    rw [k1, k2, k3]
    clear k1 k2 k3 K hm
    go_enter Tryz.func123, Tryz.ntmps123
    go_wp2_with (first | (go_at_call_of 148 a; refine (size_any a _ ha).mono ?_; rintro e w' ⟨rfl, rfl⟩) | (go_at_call_of 148 b; refine (size_any b _ hb).mono ?_; rintro e w' ⟨rfl, rfl⟩) | (go_at_call_of 148 c; refine (size_any c _ hc).mono ?_; rintro e w' ⟨rfl, rfl⟩) | (go_at_call 147; refine (product_any _ _ _ (by omega) (by omega) (by omega) (by omega)).mono ?_; rintro e w' ⟨rfl, rfl⟩) | (go_at_call 149; refine (div64_N A _ _ _ _ (by omega) (by omega) (by omega) (by omega) (by omega) (by omega)).mono ?_; rintro e w' ⟨rfl, n, rfl⟩) | (go_at_call_of 150 q0; refine (signed_pos q0 _ (by omega) (by omega)).mono ?_; rintro e w' ⟨rfl, rfl⟩) | (go_at_call_of 150 r0; refine (signed_neg r0 _ (by omega) (by omega)).mono ?_; rintro e w' ⟨rfl, rfl⟩) | (go_at_call 146; refine (downby_any _ _).mono ?_; rintro e w' ⟨rfl, rfl⟩) | (go_at_call 160; refine (down_keep c (q0) (-r0) _ _ ?_ HK.out).mono ?_; exact newcell_at _ _ _ _ (by simp); rintro e w' ⟨rfl, n2, rfl⟩))
    go_ret3
    have hC := HC.out
    refine ⟨retT ?_ ?_ rfl, ?_⟩
    case refine_3 => exact below_drewN ((below_drewN (((Below.refl _ _).alloc (by simp) _).alloc (by simp) _) _).alloc (by simp; omega) _) _
    all_goals first | rfl | omega | (unfold wrap64; omega)
  · obtain ⟨k1, k2, k3⟩ := K.2 (by omega)
    rw [k1, k2, k3]
    clear k1 k2 k3 K hm
    go_enter Tryz.func123, Tryz.ntmps123
    go_wp2_with (first | (go_at_call_of 148 a; refine (size_any a _ ha).mono ?_; rintro e w' ⟨rfl, rfl⟩) | (go_at_call_of 148 b; refine (size_any b _ hb).mono ?_; rintro e w' ⟨rfl, rfl⟩) | (go_at_call_of 148 c; refine (size_any c _ hc).mono ?_; rintro e w' ⟨rfl, rfl⟩) | (go_at_call 147; refine (product_any _ _ _ (by omega) (by omega) (by omega) (by omega)).mono ?_; rintro e w' ⟨rfl, rfl⟩) | (go_at_call 149; refine (div64_N A _ _ _ _ (by omega) (by omega) (by omega) (by omega) (by omega) (by omega)).mono ?_; rintro e w' ⟨rfl, n, rfl⟩) | (go_at_call_of 150 q0; refine (signed_posbad q0 _ (by omega) (by omega)).mono ?_; rintro e w' ⟨rfl, rfl⟩))
    go_ret3
    have hC := HC.out
    refine ⟨retT ?_ ?_ rfl, ?_⟩
    case refine_3 => exact below_drewN (((Below.refl _ _).alloc (by simp) _).alloc (by simp) _) _
    all_goals first | rfl | omega | (unfold wrap64; omega)
set_option maxHeartbeats 2000000 in
theorem cs_pnp (a b c A C q0 r0 : Int) (w : World) (ha : -9223372036854775808 ≤ a ∧ a ≤ 9223372036854775807) (hb : -9223372036854775808 ≤ b ∧ b ≤ 9223372036854775807) (hc : -9223372036854775808 ≤ c ∧ c ≤ 9223372036854775807)
    (hcb : (c == 0) = false) (h0 : ¬ c = 0) (S : Hid (Sc a b c A C q0 r0)) (hbig : ¬ C ≤ A / 18446744073709551616) (n1 : ¬ a < 0) (n2 : b < 0) (n3 : ¬ c < 0) :
    Calls Tryz.prog 123 #[.int .i64 a, .int .i64 b, .int .i64 c] w (EndsB (scQ (a * b) c) (scR (a * b) c) (scO (a * b) c) w) := by
  have hsa := abs_bd a ha
  have hsb := abs_bd b hb
  have s := S.out
  have s1 := s.A0; have s2 := s.A1; have s3 := s.C0; have s4 := s.C1; have s5 := s.qn; have s6 := s.rn; have s7 := s.rl
  have eA := s.eA; have eC := s.eC; have eq := s.eq; have er := s.er
  have s8 := s.lim (by omega)
  clear s
  have HC := Lib.hid (S.out.cpos n3)
  have d1 : decide (a < 0) = false := by simpa using n1
  have d2 : decide (b < 0) = true := by simpa using n2
  have d3 : decide (c < 0) = false := by simpa using n3
  have hm : minus a b ≠ decide (c < 0) := by simp [minus, n1, n2, n3]
  have hmm : minus a b = true := by simp [minus, n1, n2]
  by_cases hr : r0 = 0
  · have K := S.out.even h0 hm hr
    have K2 := S.out.big
    have HK := Lib.hid (keep_mk (c := c) (r := -r0) (by omega))
    have HR := Lib.hid hr
    clear hr
    by_cases hq : q0 ≤ 9223372036854775808
    · obtain ⟨k1, k2, k3⟩ := K hq
      rw [k1, k2, k3]
      clear k1 k2 k3 K K2 hm hmm
      go_enter Tryz.func123, Tryz.ntmps123
      go_wp2_with (first | (go_at_call_of 148 a; refine (size_any a _ ha).mono ?_; rintro e w' ⟨rfl, rfl⟩) | (go_at_call_of 148 b; refine (size_any b _ hb).mono ?_; rintro e w' ⟨rfl, rfl⟩) | (go_at_call_of 148 c; refine (size_any c _ hc).mono ?_; rintro e w' ⟨rfl, rfl⟩) | (go_at_call 147; refine (product_any _ _ _ (by omega) (by omega) (by omega) (by omega)).mono ?_; rintro e w' ⟨rfl, rfl⟩) | (go_at_call 149; refine (div64_N A _ _ _ _ (by omega) (by omega) (by omega) (by omega) (by omega) (by omega)).mono ?_; rintro e w' ⟨rfl, n, rfl⟩) | (go_at_call_of 150 q0; refine (signed_neg q0 _ (by omega) (by omega)).mono ?_; rintro e w' ⟨rfl, rfl⟩) | (go_at_call_of 150 r0; refine (signed_neg r0 _ (by omega) (by omega)).mono ?_; rintro e w' ⟨rfl, rfl⟩) | (go_at_call 146; refine (downby_any _ _).mono ?_; rintro e w' ⟨rfl, rfl⟩) | (go_at_call 160; refine (down_keep c (-q0) (-r0) _ _ ?_ HK.out).mono ?_; exact newcell_at _ _ _ _ (by simp); rintro e w' ⟨rfl, n2, rfl⟩))
      go_ret3
      have hr := HR.out
      refine ⟨retT ?_ ?_ rfl, ?_⟩
      case refine_3 => exact below_drewN ((below_drewN (((Below.refl _ _).alloc (by simp) _).alloc (by simp) _) _).alloc (by simp; omega) _) _
      all_goals first | rfl | omega | (unfold wrap64; omega)
    · obtain ⟨k1, k2, k3⟩ := K2 (by omega)
      rw [k1, k2, k3]
      clear k1 k2 k3 K K2 hm hmm
      go_enter Tryz.func123, Tryz.ntmps123
      go_wp2_with (first | (go_at_call_of 148 a; refine (size_any a _ ha).mono ?_; rintro e w' ⟨rfl, rfl⟩) | (go_at_call_of 148 b; refine (size_any b _ hb).mono ?_; rintro e w' ⟨rfl, rfl⟩) | (go_at_call_of 148 c; refine (size_any c _ hc).mono ?_; rintro e w' ⟨rfl, rfl⟩) | (go_at_call 147; refine (product_any _ _ _ (by omega) (by omega) (by omega) (by omega)).mono ?_; rintro e w' ⟨rfl, rfl⟩) | (go_at_call 149; refine (div64_N A _ _ _ _ (by omega) (by omega) (by omega) (by omega) (by omega) (by omega)).mono ?_; rintro e w' ⟨rfl, n, rfl⟩) | (go_at_call_of 150 q0; refine (signed_negbad q0 _ (by omega) (by omega)).mono ?_; rintro e w' ⟨rfl, rfl⟩))
      go_ret3
      have hC := HC.out
      refine ⟨retT ?_ ?_ rfl, ?_⟩
      case refine_3 => exact below_drewN (((Below.refl _ _).alloc (by simp) _).alloc (by simp) _) _
      all_goals first | rfl | omega | (unfold wrap64; omega)
  · have K := S.out.odd h0 hm (by omega)
    have HK := Lib.hid (keep_no (c := c) (r := -r0) (by have := HC.out; omega))
    by_cases hq : q0 ≤ 9223372036854775807
    · obtain ⟨k1, k2, k3⟩ := K.1 hq
      rw [hmm] at k3
      rw [k1, k2, k3]
      clear k1 k2 k3 K hm hmm
      have hqq : (-q0 == -9223372036854775808) = false := by rw [beq_eq_false_iff_ne]; omega
      have HQ := Lib.hid hqq
      clear hqq
      go_enter Tryz.func123, Tryz.ntmps123
      go_wp2_with (first | (go_at_call_of 148 a; refine (size_any a _ ha).mono ?_; rintro e w' ⟨rfl, rfl⟩) | (go_at_call_of 148 b; refine (size_any b _ hb).mono ?_; rintro e w' ⟨rfl, rfl⟩) | (go_at_call_of 148 c; refine (size_any c _ hc).mono ?_; rintro e w' ⟨rfl, rfl⟩) | (go_at_call 147; refine (product_any _ _ _ (by omega) (by omega) (by omega) (by omega)).mono ?_; rintro e w' ⟨rfl, rfl⟩) | (go_at_call 149; refine (div64_N A _ _ _ _ (by omega) (by omega) (by omega) (by omega) (by omega) (by omega)).mono ?_; rintro e w' ⟨rfl, n, rfl⟩) | (go_at_call_of 150 q0; refine (signed_neg q0 _ (by omega) (by omega)).mono ?_; rintro e w' ⟨rfl, rfl⟩) | (go_at_call_of 150 r0; refine (signed_neg r0 _ (by omega) (by omega)).mono ?_; rintro e w' ⟨rfl, rfl⟩) | (go_at_call 146; refine (downby_any _ _).mono ?_; rintro e w' ⟨rfl, rfl⟩) | (go_at_call 160; refine (down_down c (-q0) (-r0) _ _ ?_ HK.out HQ.out).mono ?_; exact newcell_at _ _ _ _ (by simp); rintro e w' ⟨rfl, n2, rfl⟩))
      go_ret3
      have hC := HC.out
      refine ⟨retT ?_ ?_ rfl, ?_⟩
      case refine_3 => exact below_drewN ((below_drewN (((Below.refl _ _).alloc (by simp) _).alloc (by simp) _) _).alloc (by simp; omega) _) _
      all_goals first | rfl | omega | (unfold wrap64; omega)
    · obtain ⟨k1, k2, k3⟩ := K.2 (by omega)
      rw [k1, k2, k3]
      clear k1 k2 k3 K hm hmm
      by_cases hq2 : q0 ≤ 9223372036854775808
      · have hqq : (-q0 == -9223372036854775808) = true := by rw [beq_iff_eq]; omega
        have HQ := Lib.hid hqq
        clear hqq
        go_enter Tryz.func123, Tryz.ntmps123
        go_wp2_with (first | (go_at_call_of 148 a; refine (size_any a _ ha).mono ?_; rintro e w' ⟨rfl, rfl⟩) | (go_at_call_of 148 b; refine (size_any b _ hb).mono ?_; rintro e w' ⟨rfl, rfl⟩) | (go_at_call_of 148 c; refine (size_any c _ hc).mono ?_; rintro e w' ⟨rfl, rfl⟩) | (go_at_call 147; refine (product_any _ _ _ (by omega) (by omega) (by omega) (by omega)).mono ?_; rintro e w' ⟨rfl, rfl⟩) | (go_at_call 149; refine (div64_N A _ _ _ _ (by omega) (by omega) (by omega) (by omega) (by omega) (by omega)).mono ?_; rintro e w' ⟨rfl, n, rfl⟩) | (go_at_call_of 150 q0; refine (signed_neg q0 _ (by omega) (by omega)).mono ?_; rintro e w' ⟨rfl, rfl⟩) | (go_at_call_of 150 r0; refine (signed_neg r0 _ (by omega) (by omega)).mono ?_; rintro e w' ⟨rfl, rfl⟩) | (go_at_call 146; refine (downby_any _ _).mono ?_; rintro e w' ⟨rfl, rfl⟩) | (go_at_call 160; refine (down_none c (-q0) (-r0) _ _ ?_ HK.out HQ.out).mono ?_; exact newcell_at _ _ _ _ (by simp); rintro e w' ⟨rfl, n2, rfl⟩))
        go_ret3
        have hC := HC.out
        refine ⟨retT ?_ ?_ rfl, ?_⟩
        case refine_3 => exact below_drewN ((below_drewN (((Below.refl _ _).alloc (by simp) _).alloc (by simp) _) _).alloc (by simp; omega) _) _
        all_goals first | rfl | omega | (unfold wrap64; omega)
      · skip
        go_enter Tryz.func123, Tryz.ntmps123
        go_wp2_with (first | (go_at_call_of 148 a; refine (size_any a _ ha).mono ?_; rintro e w' ⟨rfl, rfl⟩) | (go_at_call_of 148 b; refine (size_any b _ hb).mono ?_; rintro e w' ⟨rfl, rfl⟩) | (go_at_call_of 148 c; refine (size_any c _ hc).mono ?_; rintro e w' ⟨rfl, rfl⟩) | (go_at_call 147; refine (product_any _ _ _ (by omega) (by omega) (by omega) (by omega)).mono ?_; rintro e w' ⟨rfl, rfl⟩) | (go_at_call 149; refine (div64_N A _ _ _ _ (by omega) (by omega) (by omega) (by omega) (by omega) (by omega)).mono ?_; rintro e w' ⟨rfl, n, rfl⟩) | (go_at_call_of 150 q0; refine (signed_negbad q0 _ (by omega) (by omega)).mono ?_; rintro e w' ⟨rfl, rfl⟩))
        go_ret3
        have hC := HC.out
        refine ⟨retT ?_ ?_ rfl, ?_⟩
        case refine_3 => exact below_drewN (((Below.refl _ _).alloc (by simp) _).alloc (by simp) _) _
        all_goals first | rfl | omega | (unfold wrap64; omega)
set_option maxHeartbeats 2000000 in
theorem cs_ppn (a b c A C q0 r0 : Int) (w : World) (ha : -9223372036854775808 ≤ a ∧ a ≤ 9223372036854775807) (hb : -9223372036854775808 ≤ b ∧ b ≤ 9223372036854775807) (hc : -9223372036854775808 ≤ c ∧ c ≤ 9223372036854775807)
    (hcb : (c == 0) = false) (h0 : ¬ c = 0) (S : Hid (Sc a b c A C q0 r0)) (hbig : ¬ C ≤ A / 18446744073709551616) (n1 : ¬ a < 0) (n2 : ¬ b < 0) (n3 : c < 0) :
    Calls Tryz.prog 123 #[.int .i64 a, .int .i64 b, .int .i64 c] w (EndsB (scQ (a * b) c) (scR (a * b) c) (scO (a * b) c) w) := by
  have hsa := abs_bd a ha
  have hsb := abs_bd b hb
  have s := S.out
  have s1 := s.A0; have s2 := s.A1; have s3 := s.C0; have s4 := s.C1; have s5 := s.qn; have s6 := s.rn; have s7 := s.rl
  have eA := s.eA; have eC := s.eC; have eq := s.eq; have er := s.er
  have s8 := s.lim (by omega)
  clear s
  have HC := Lib.hid (S.out.cneg n3)
  have d1 : decide (a < 0) = false := by simpa using n1
  have d2 : decide (b < 0) = false := by simpa using n2
  have d3 : decide (c < 0) = true := by simpa using n3
  have hm : minus a b ≠ decide (c < 0) := by simp [minus, n1, n2, n3]
  have hmm : minus a b = false := by simp [minus, n1, n2]
  by_cases hr : r0 = 0
  · have K := S.out.even h0 hm hr
    have K2 := S.out.big
    have HK := Lib.hid (keep_mk (c := c) (r := r0) (by omega))
    have HR := Lib.hid hr
    clear hr
    by_cases hq : q0 ≤ 9223372036854775808
    · obtain ⟨k1, k2, k3⟩ := K hq
      rw [k1, k2, k3]
      clear k1 k2 k3 K K2 hm hmm
      go_enter Tryz.func123, Tryz.ntmps123
      go_wp2_with (first | (go_at_call_of 148 a; refine (size_any a _ ha).mono ?_; rintro e w' ⟨rfl, rfl⟩) | (go_at_call_of 148 b; refine (size_any b _ hb).mono ?_; rintro e w' ⟨rfl, rfl⟩) | (go_at_call_of 148 c; refine (size_any c _ hc).mono ?_; rintro e w' ⟨rfl, rfl⟩) | (go_at_call 147; refine (product_any _ _ _ (by omega) (by omega) (by omega) (by omega)).mono ?_; rintro e w' ⟨rfl, rfl⟩) | (go_at_call 149; refine (div64_N A _ _ _ _ (by omega) (by omega) (by omega) (by omega) (by omega) (by omega)).mono ?_; rintro e w' ⟨rfl, n, rfl⟩) | (go_at_call_of 150 q0; refine (signed_neg q0 _ (by omega) (by omega)).mono ?_; rintro e w' ⟨rfl, rfl⟩) | (go_at_call_of 150 r0; refine (signed_pos r0 _ (by omega) (by omega)).mono ?_; rintro e w' ⟨rfl, rfl⟩) | (go_at_call 146; refine (downby_any _ _).mono ?_; rintro e w' ⟨rfl, rfl⟩) | (go_at_call 160; refine (down_keep c (-q0) (r0) _ _ ?_ HK.out).mono ?_; exact newcell_at _ _ _ _ (by simp); rintro e w' ⟨rfl, n2, rfl⟩))
      go_ret3
      have hr := HR.out
      refine ⟨retT ?_ ?_ rfl, ?_⟩
      case refine_3 => exact below_drewN ((below_drewN (((Below.refl _ _).alloc (by simp) _).alloc (by simp) _) _).alloc (by simp; omega) _) _
      all_goals first | rfl | omega | (unfold wrap64; omega)
    · obtain ⟨k1, k2, k3⟩ := K2 (by omega)
      rw [k1, k2, k3]
      clear k1 k2 k3 K K2 hm hmm
      go_enter Tryz.func123, Tryz.ntmps123
      go_wp2_with (first | (go_at_call_of 148 a; refine (size_any a _ ha).mono ?_; rintro e w' ⟨rfl, rfl⟩) | (go_at_call_of 148 b; refine (size_any b _ hb).mono ?_; rintro e w' ⟨rfl, rfl⟩) | (go_at_call_of 148 c; refine (size_any c _ hc).mono ?_; rintro e w' ⟨rfl, rfl⟩) | (go_at_call 147; refine (product_any _ _ _ (by omega) (by omega) (by omega) (by omega)).mono ?_; rintro e w' ⟨rfl, rfl⟩) | (go_at_call 149; refine (div64_N A _ _ _ _ (by omega) (by omega) (by omega) (by omega) (by omega) (by omega)).mono ?_; rintro e w' ⟨rfl, n, rfl⟩) | (go_at_call_of 150 q0; refine (signed_negbad q0 _ (by omega) (by omega)).mono ?_; rintro e w' ⟨rfl, rfl⟩))
      go_ret3
      have hC := HC.out
      refine ⟨retT ?_ ?_ rfl, ?_⟩
      case refine_3 => exact below_drewN (((Below.refl _ _).alloc (by simp) _).alloc (by simp) _) _
      all_goals first | rfl | omega | (unfold wrap64; omega)
  · have K := S.out.odd h0 hm (by omega)
    have HK := Lib.hid (keep_no (c := c) (r := r0) (by have := HC.out; omega))
    by_cases hq : q0 ≤ 9223372036854775807
    · obtain ⟨k1, k2, k3⟩ := K.1 hq
      rw [hmm] at k3
      rw [k1, k2, k3]
      clear k1 k2 k3 K hm hmm
      have hqq : (-q0 == -9223372036854775808) = false := by rw [beq_eq_false_iff_ne]; omega
      have HQ := Lib.hid hqq
      clear hqq
      go_enter Tryz.func123, Tryz.ntmps123
      go_wp2_with (first | (go_at_call_of 148 a; refine (size_any a _ ha).mono ?_; rintro e w' ⟨rfl, rfl⟩) | (go_at_call_of 148 b; refine (size_any b _ hb).mono ?_; rintro e w' ⟨rfl, rfl⟩) | (go_at_call_of 148 c; refine (size_any c _ hc).mono ?_; rintro e w' ⟨rfl, rfl⟩) | (go_at_call 147; refine (product_any _ _ _ (by omega) (by omega) (by omega) (by omega)).mono ?_; rintro e w' ⟨rfl, rfl⟩) | (go_at_call 149; refine (div64_N A _ _ _ _ (by omega) (by omega) (by omega) (by omega) (by omega) (by omega)).mono ?_; rintro e w' ⟨rfl, n, rfl⟩) | (go_at_call_of 150 q0; refine (signed_neg q0 _ (by omega) (by omega)).mono ?_; rintro e w' ⟨rfl, rfl⟩) | (go_at_call_of 150 r0; refine (signed_pos r0 _ (by omega) (by omega)).mono ?_; rintro e w' ⟨rfl, rfl⟩) | (go_at_call 146; refine (downby_any _ _).mono ?_; rintro e w' ⟨rfl, rfl⟩) | (go_at_call 160; refine (down_down c (-q0) (r0) _ _ ?_ HK.out HQ.out).mono ?_; exact newcell_at _ _ _ _ (by simp); rintro e w' ⟨rfl, n2, rfl⟩))
      go_ret3
      have hC := HC.out
      refine ⟨retT ?_ ?_ rfl, ?_⟩
      case refine_3 => exact below_drewN ((below_drewN (((Below.refl _ _).alloc (by simp) _).alloc (by simp) _) _).alloc (by simp; omega) _) _
      all_goals first | rfl | omega | (unfold wrap64; omega)
    · obtain ⟨k1, k2, k3⟩ := K.2 (by omega)
      rw [k1, k2, k3]
      clear k1 k2 k3 K hm hmm
      by_cases hq2 : q0 ≤ 9223372036854775808
      · have hqq : (-q0 == -9223372036854775808) = true := by rw [beq_iff_eq]; omega
        have HQ := Lib.hid hqq
        clear hqq
        go_enter Tryz.func123, Tryz.ntmps123
        go_wp2_with (first | (go_at_call_of 148 a; refine (size_any a _ ha).mono ?_; rintro e w' ⟨rfl, rfl⟩) | (go_at_call_of 148 b; refine (size_any b _ hb).mono ?_; rintro e w' ⟨rfl, rfl⟩) | (go_at_call_of 148 c; refine (size_any c _ hc).mono ?_; rintro e w' ⟨rfl, rfl⟩) | (go_at_call 147; refine (product_any _ _ _ (by omega) (by omega) (by omega) (by omega)).mono ?_; rintro e w' ⟨rfl, rfl⟩) | (go_at_call 149; refine (div64_N A _ _ _ _ (by omega) (by omega) (by omega) (by omega) (by omega) (by omega)).mono ?_; rintro e w' ⟨rfl, n, rfl⟩) | (go_at_call_of 150 q0; refine (signed_neg q0 _ (by omega) (by omega)).mono ?_; rintro e w' ⟨rfl, rfl⟩) | (go_at_call_of 150 r0; refine (signed_pos r0 _ (by omega) (by omega)).mono ?_; rintro e w' ⟨rfl, rfl⟩) | (go_at_call 146; refine (downby_any _ _).mono ?_; rintro e w' ⟨rfl, rfl⟩) | (go_at_call 160; refine (down_none c (-q0) (r0) _ _ ?_ HK.out HQ.out).mono ?_; exact newcell_at _ _ _ _ (by simp); rintro e w' ⟨rfl, n2, rfl⟩))
        go_ret3
        have hC := HC.out
        refine ⟨retT ?_ ?_ rfl, ?_⟩
        case refine_3 => exact below_drewN ((below_drewN (((Below.refl _ _).alloc (by simp) _).alloc (by simp) _) _).alloc (by simp; omega) _) _
        all_goals first | rfl | omega | (unfold wrap64; omega)
      · skip
        go_enter Tryz.func123, Tryz.ntmps123
        go_wp2_with (first | (go_at_call_of 148 a; refine (size_any a _ ha).mono ?_; rintro e w' ⟨rfl, rfl⟩) | (go_at_call_of 148 b; refine (size_any b _ hb).mono ?_; rintro e w' ⟨rfl, rfl⟩) | (go_at_call_of 148 c; refine (size_any c _ hc).mono ?_; rintro e w' ⟨rfl, rfl⟩) | (go_at_call 147; refine (product_any _ _ _ (by omega) (by omega) (by omega) (by omega)).mono ?_; rintro e w' ⟨rfl, rfl⟩) | (go_at_call 149; refine (div64_N A _ _ _ _ (by omega) (by omega) (by omega) (by omega) (by omega) (by omega)).mono ?_; rintro e w' ⟨rfl, n, rfl⟩) | (go_at_call_of 150 q0; refine (signed_negbad q0 _ (by omega) (by omega)).mono ?_; rintro e w' ⟨rfl, rfl⟩))
        go_ret3
        have hC := HC.out
        refine ⟨retT ?_ ?_ rfl, ?_⟩
        case refine_3 => exact below_drewN (((Below.refl _ _).alloc (by simp) _).alloc (by simp) _) _
        all_goals first | rfl | omega | (unfold wrap64; omega)
set_option maxHeartbeats 2000000 in
theorem cs_ppp (a b c A C q0 r0 : Int) (w : World) (ha : -9223372036854775808 ≤ a ∧ a ≤ 9223372036854775807) (hb : -9223372036854775808 ≤ b ∧ b ≤ 9223372036854775807) (hc : -9223372036854775808 ≤ c ∧ c ≤ 9223372036854775807)
    (hcb : (c == 0) = false) (h0 : ¬ c = 0) (S : Hid (Sc a b c A C q0 r0)) (hbig : ¬ C ≤ A / 18446744073709551616) (n1 : ¬ a < 0) (n2 : ¬ b < 0) (n3 : ¬ c < 0) :
    Calls Tryz.prog 123 #[.int .i64 a, .int .i64 b, .int .i64 c] w (EndsB (scQ (a * b) c) (scR (a * b) c) (scO (a * b) c) w) := by
  have hsa := abs_bd a ha
  have hsb := abs_bd b hb
  have s := S.out
  have s1 := s.A0; have s2 := s.A1; have s3 := s.C0; have s4 := s.C1; have s5 := s.qn; have s6 := s.rn; have s7 := s.rl
  have eA := s.eA; have eC := s.eC; have eq := s.eq; have er := s.er
  have s8 := s.lim (by omega)
  clear s
  have HC := Lib.hid (S.out.cpos n3)
  have d1 : decide (a < 0) = false := by simpa using n1
  have d2 : decide (b < 0) = false := by simpa using n2
  have d3 : decide (c < 0) = false := by simpa using n3
  have hm : minus a b = decide (c < 0) := by simp [minus, n1, n2, n3]
  have K := S.out.same h0 hm
  have HK := Lib.hid (keep_mk (c := c) (r := r0) (by have := HC.out; omega))
  by_cases hq : q0 ≤ 9223372036854775807
  · obtain ⟨k1, k2, k3⟩ := K.1 hq
    rw [if_neg n3] at k3
    rw [k1, k2, k3]
    clear k1 k2 k3 K hm
    go_enter Tryz.func123, Tryz.ntmps123
    go_wp2_with (first | (go_at_call_of 148 a; refine (size_any a _ ha).mono ?_; rintro e w' ⟨rfl, rfl⟩) | (go_at_call_of 148 b; refine (size_any b _ hb).mono ?_; rintro e w' ⟨rfl, rfl⟩) | (go_at_call_of 148 c; refine (size_any c _ hc).mono ?_; rintro e w' ⟨rfl, rfl⟩) | (go_at_call 147; refine (product_any _ _ _ (by omega) (by omega) (by omega) (by omega)).mono ?_; rintro e w' ⟨rfl, rfl⟩) | (go_at_call 149; refine (div64_N A _ _ _ _ (by omega) (by omega) (by omega) (by omega) (by omega) (by omega)).mono ?_; rintro e w' ⟨rfl, n, rfl⟩) | (go_at_call_of 150 q0; refine (signed_pos q0 _ (by omega) (by omega)).mono ?_; rintro e w' ⟨rfl, rfl⟩) | (go_at_call_of 150 r0; refine (signed_pos r0 _ (by omega) (by omega)).mono ?_; rintro e w' ⟨rfl, rfl⟩) | (go_at_call 146; refine (downby_any _ _).mono ?_; rintro e w' ⟨rfl, rfl⟩) | (go_at_call 160; refine (down_keep c (q0) (r0) _ _ ?_ HK.out).mono ?_; exact newcell_at _ _ _ _ (by simp); rintro e w' ⟨rfl, n2, rfl⟩))
    go_ret3
    have hC := HC.out
    refine ⟨retT ?_ ?_ rfl, ?_⟩
    case refine_3 => exact below_drewN ((below_drewN (((Below.refl _ _).alloc (by simp) _).alloc (by simp) _) _).alloc (by simp; omega) _) _
    all_goals first | rfl | omega | (unfold wrap64; omega)
  · obtain ⟨k1, k2, k3⟩ := K.2 (by omega)
    rw [k1, k2, k3]
    clear k1 k2 k3 K hm
    go_enter Tryz.func123, Tryz.ntmps123
    go_wp2_with (first | (go_at_call_of 148 a; refine (size_any a _ ha).mono ?_; rintro e w' ⟨rfl, rfl⟩) | (go_at_call_of 148 b; refine (size_any b _ hb).mono ?_; rintro e w' ⟨rfl, rfl⟩) | (go_at_call_of 148 c; refine (size_any c _ hc).mono ?_; rintro e w' ⟨rfl, rfl⟩) | (go_at_call 147; refine (product_any _ _ _ (by omega) (by omega) (by omega) (by omega)).mono ?_; rintro e w' ⟨rfl, rfl⟩) | (go_at_call 149; refine (div64_N A _ _ _ _ (by omega) (by omega) (by omega) (by omega) (by omega) (by omega)).mono ?_; rintro e w' ⟨rfl, n, rfl⟩) | (go_at_call_of 150 q0; refine (signed_posbad q0 _ (by omega) (by omega)).mono ?_; rintro e w' ⟨rfl, rfl⟩))
    go_ret3
    have hC := HC.out
    refine ⟨retT ?_ ?_ rfl, ?_⟩
    case refine_3 => exact below_drewN (((Below.refl _ _).alloc (by simp) _).alloc (by simp) _) _
    all_goals first | rfl | omega | (unfold wrap64; omega)

set_option maxHeartbeats 1000000 in
theorem scale_any (a b c : Int) (w : World) (ha : -9223372036854775808 ≤ a ∧ a ≤ 9223372036854775807) (hb : -9223372036854775808 ≤ b ∧ b ≤ 9223372036854775807) (hc : -9223372036854775808 ≤ c ∧ c ≤ 9223372036854775807) :
    Calls Tryz.prog 123 #[.int .i64 a, .int .i64 b, .int .i64 c] w fun e w' => e = .returned (.tuple #[.int .i64 (scQ (a * b) c), .int .i64 (scR (a * b) c), .bool (scO (a * b) c)]) ∧ Below w.heap.size w w' := by
  have hsa := abs_bd a ha
  have hsb := abs_bd b hb
  by_cases h0 : c = 0
  · obtain ⟨z1, z2, z3⟩ := sc_no (a * b) c (.inl h0)
    rw [z1, z2, z3]
    subst h0
    clear z1 z2 z3
    go_enter Tryz.func123, Tryz.ntmps123
    go_wp2
    go_ret3
    exact ⟨rfl, Below.refl _ _⟩
  obtain ⟨A, C, q0, r0, s⟩ := sc_data a b c ha hb hc h0
  have hcb : (c == 0) = false := by rw [beq_eq_false_iff_ne]; exact h0
  by_cases hbig : C ≤ A / 18446744073709551616
  · obtain ⟨z1, z2, z3⟩ := s.big (s.over hbig)
    rw [z1, z2, z3]
    have s1 := s.A0; have s2 := s.A1; have s3 := s.C0; have s4 := s.C1
    have eA := s.eA; have eC := s.eC
    clear z1 z2 z3 s
    go_enter Tryz.func123, Tryz.ntmps123
    go_wp2_with (first | (go_at_call_of 148 a; refine (size_any a _ ha).mono ?_; rintro e w' ⟨rfl, rfl⟩) | (go_at_call_of 148 b; refine (size_any b _ hb).mono ?_; rintro e w' ⟨rfl, rfl⟩) | (go_at_call_of 148 c; refine (size_any c _ hc).mono ?_; rintro e w' ⟨rfl, rfl⟩) | (go_at_call 147; refine (product_any _ _ _ (by omega) (by omega) (by omega) (by omega)).mono ?_; rintro e w' ⟨rfl, rfl⟩) | (go_at_call 149; refine (div64_N A _ _ _ _ (by omega) (by omega) (by omega) (by omega) (by omega) (by omega)).mono ?_; rintro e w' ⟨rfl, n, rfl⟩) | (go_at_call_of 150 q0; refine (signed_pos q0 _ (by omega) (by omega)).mono ?_; rintro e w' ⟨rfl, rfl⟩))
    go_ret3
    exact ⟨rfl, ((Below.refl _ _).alloc (by simp) _).alloc (by simp) _⟩
  have S := Lib.hid s
  by_cases n1 : a < 0
  · by_cases n2 : b < 0
    · by_cases n3 : c < 0
      · exact cs_nnn a b c A C q0 r0 w ha hb hc hcb h0 S hbig n1 n2 n3
      · exact cs_nnp a b c A C q0 r0 w ha hb hc hcb h0 S hbig n1 n2 n3
    · by_cases n3 : c < 0
      · exact cs_npn a b c A C q0 r0 w ha hb hc hcb h0 S hbig n1 n2 n3
      · exact cs_npp a b c A C q0 r0 w ha hb hc hcb h0 S hbig n1 n2 n3
  · by_cases n2 : b < 0
    · by_cases n3 : c < 0
      · exact cs_pnn a b c A C q0 r0 w ha hb hc hcb h0 S hbig n1 n2 n3
      · exact cs_pnp a b c A C q0 r0 w ha hb hc hcb h0 S hbig n1 n2 n3
    · by_cases n3 : c < 0
      · exact cs_ppn a b c A C q0 r0 w ha hb hc hcb h0 S hbig n1 n2 n3
      · exact cs_ppp a b c A C q0 r0 w ha hb hc hcb h0 S hbig n1 n2 n3
end Go.Proofs.YtobijdfnafnodaaGreatDoor.Ce
