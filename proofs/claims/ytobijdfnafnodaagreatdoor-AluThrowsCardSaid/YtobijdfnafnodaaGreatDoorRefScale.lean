/- The document's Scale: its contract. -/
import Derived.Test.YtobijdfnafnodaaGreatDoorRefWalk
import Derived.Deep.RegionWith
namespace Go.Proofs.YtobijdfnafnodaaGreatDoor.Ce
set_option maxRecDepth 100000
open Go.ChangeShapes Go.WideShapes Go.ChangeAt Go.RowKit
set_option linter.unusedVariables false

theorem by_N (N hi lo c : Int) (w : World) (hN : N = hi * 18446744073709551616 + lo) (hi0 : 0 ≤ hi) (hic : hi < c) (c1 : c ≤ 18446744073709551615) (lo0 : 0 ≤ lo) (lo1 : lo ≤ 18446744073709551615) :
    Calls Tryz.prog 136 #[.int .u64 hi, .int .u64 lo, .int .u64 c] w fun e w' => e = .returned (.tuple #[.int .u64 (N / c), .int .u64 (N % c)]) ∧ w = w' := by
  rw [hN]; exact by_any hi lo c w hi0 hic c1 lo0 lo1

theorem w64n (q : Int) (h : 0 ≤ q ∧ q ≤ 9223372036854775808) : wrap64 (IntKind.u64.wrap (-q)) = -q := by rw [uw]; unfold wrap64; omega

def Ends (x y : Int) (z : Bool) (w : World) (e : Ending) (w' : World) : Prop := e = .returned (.tuple #[.int .i64 x, .int .i64 y, .bool z]) ∧ w = w'

set_option maxHeartbeats 2000000 in
theorem rs_nnn (a b c A C q0 r0 : Int) (w : World) (ha : -9223372036854775808 ≤ a ∧ a ≤ 9223372036854775807) (hb : -9223372036854775808 ≤ b ∧ b ≤ 9223372036854775807) (hc : -9223372036854775808 ≤ c ∧ c ≤ 9223372036854775807)
    (hcb : (c == 0) = false) (h0 : ¬ c = 0) (S : Hid (Sc a b c A C q0 r0)) (hbig : ¬ C ≤ A / 18446744073709551616) (n1 : a < 0) (n2 : b < 0) (n3 : c < 0) :
    Calls Tryz.prog 101 #[.int .i64 a, .int .i64 b, .int .i64 c] w (Ends (scQ (a * b) c) (scR (a * b) c) (scO (a * b) c) w) := by
  have hsa := abs_bd a ha
  have hsb := abs_bd b hb
  have s := S.out
  have s1 := s.A0; have s2 := s.A1; have s3 := s.C0; have s4 := s.C1; have s5 := s.qn; have s6 := s.rn; have s7 := s.rl
  have eA := s.eA; have eC := s.eC; have eq := s.eq; have er := s.er
  have s8 := s.lim (by omega)
  clear s
  have HC := Lib.hid (S.out.cneg n3)
  have hm : minus a b ≠ decide (c < 0) := by simp [minus, n1, n2, n3]
  have hmm : minus a b = false := by simp [minus, n1, n2]
  by_cases hr : r0 = 0
  · have K := S.out.even h0 hm hr
    have K2 := S.out.big
    by_cases hq : q0 ≤ 9223372036854775808
    · obtain ⟨k1, k2, k3⟩ := K hq
      rw [k1, k2, k3]
      clear k1 k2 k3 K K2 hm hmm
      go_enter Tryz.func101, Tryz.ntmps101
      go_wp2_with (first | (go_at_call_of 135 a; refine (rsize_any a _ ha).mono ?_; rintro e w' ⟨rfl, rfl⟩) | (go_at_call_of 135 b; refine (rsize_any b _ hb).mono ?_; rintro e w' ⟨rfl, rfl⟩) | (go_at_call_of 135 c; refine (rsize_any c _ hc).mono ?_; rintro e w' ⟨rfl, rfl⟩) | (go_at_call 134; refine (times_any _ _ _ (by omega) (by omega) (by omega) (by omega)).mono ?_; rintro e w' ⟨rfl, rfl⟩) | (go_at_call 136; refine (by_N A _ _ _ _ (by omega) (by omega) (by omega) (by omega) (by omega) (by omega)).mono ?_; rintro e w' ⟨rfl, rfl⟩))
      all_goals
        go_ret3
        have hC := HC.out
        refine ⟨retT ?_ ?_ rfl, rfl⟩
        all_goals first | rfl | omega | exact w64n _ (by omega) | (rw [uw]; unfold wrap64; omega)
    · obtain ⟨k1, k2, k3⟩ := K2 (by omega)
      rw [k1, k2, k3]
      clear k1 k2 k3 K K2 hm hmm
      go_enter Tryz.func101, Tryz.ntmps101
      go_wp2_with (first | (go_at_call_of 135 a; refine (rsize_any a _ ha).mono ?_; rintro e w' ⟨rfl, rfl⟩) | (go_at_call_of 135 b; refine (rsize_any b _ hb).mono ?_; rintro e w' ⟨rfl, rfl⟩) | (go_at_call_of 135 c; refine (rsize_any c _ hc).mono ?_; rintro e w' ⟨rfl, rfl⟩) | (go_at_call 134; refine (times_any _ _ _ (by omega) (by omega) (by omega) (by omega)).mono ?_; rintro e w' ⟨rfl, rfl⟩) | (go_at_call 136; refine (by_N A _ _ _ _ (by omega) (by omega) (by omega) (by omega) (by omega) (by omega)).mono ?_; rintro e w' ⟨rfl, rfl⟩))
      all_goals
        go_ret3
        have hC := HC.out
        refine ⟨retT ?_ ?_ rfl, rfl⟩
        all_goals first | rfl | omega | exact w64n _ (by omega) | (rw [uw]; unfold wrap64; omega)
  · have K := S.out.odd h0 hm (by omega)
    by_cases hq : q0 ≤ 9223372036854775807
    · obtain ⟨k1, k2, k3⟩ := K.1 hq
      rw [hmm] at k3
      rw [k1, k2, k3]
      clear k1 k2 k3 K hm hmm
      go_enter Tryz.func101, Tryz.ntmps101
      go_wp2_with (first | (go_at_call_of 135 a; refine (rsize_any a _ ha).mono ?_; rintro e w' ⟨rfl, rfl⟩) | (go_at_call_of 135 b; refine (rsize_any b _ hb).mono ?_; rintro e w' ⟨rfl, rfl⟩) | (go_at_call_of 135 c; refine (rsize_any c _ hc).mono ?_; rintro e w' ⟨rfl, rfl⟩) | (go_at_call 134; refine (times_any _ _ _ (by omega) (by omega) (by omega) (by omega)).mono ?_; rintro e w' ⟨rfl, rfl⟩) | (go_at_call 136; refine (by_N A _ _ _ _ (by omega) (by omega) (by omega) (by omega) (by omega) (by omega)).mono ?_; rintro e w' ⟨rfl, rfl⟩))
      all_goals
        go_ret3
        have hC := HC.out
        refine ⟨retT ?_ ?_ rfl, rfl⟩
        all_goals first | rfl | omega | exact w64n _ (by omega) | (rw [uw]; unfold wrap64; omega)
    · obtain ⟨k1, k2, k3⟩ := K.2 (by omega)
      rw [k1, k2, k3]
      clear k1 k2 k3 K hm hmm
      go_enter Tryz.func101, Tryz.ntmps101
      go_wp2_with (first | (go_at_call_of 135 a; refine (rsize_any a _ ha).mono ?_; rintro e w' ⟨rfl, rfl⟩) | (go_at_call_of 135 b; refine (rsize_any b _ hb).mono ?_; rintro e w' ⟨rfl, rfl⟩) | (go_at_call_of 135 c; refine (rsize_any c _ hc).mono ?_; rintro e w' ⟨rfl, rfl⟩) | (go_at_call 134; refine (times_any _ _ _ (by omega) (by omega) (by omega) (by omega)).mono ?_; rintro e w' ⟨rfl, rfl⟩) | (go_at_call 136; refine (by_N A _ _ _ _ (by omega) (by omega) (by omega) (by omega) (by omega) (by omega)).mono ?_; rintro e w' ⟨rfl, rfl⟩))
      all_goals
        go_ret3
        have hC := HC.out
        refine ⟨retT ?_ ?_ rfl, rfl⟩
        all_goals first | rfl | omega | exact w64n _ (by omega) | (rw [uw]; unfold wrap64; omega)
set_option maxHeartbeats 2000000 in
theorem rs_nnp (a b c A C q0 r0 : Int) (w : World) (ha : -9223372036854775808 ≤ a ∧ a ≤ 9223372036854775807) (hb : -9223372036854775808 ≤ b ∧ b ≤ 9223372036854775807) (hc : -9223372036854775808 ≤ c ∧ c ≤ 9223372036854775807)
    (hcb : (c == 0) = false) (h0 : ¬ c = 0) (S : Hid (Sc a b c A C q0 r0)) (hbig : ¬ C ≤ A / 18446744073709551616) (n1 : a < 0) (n2 : b < 0) (n3 : ¬ c < 0) :
    Calls Tryz.prog 101 #[.int .i64 a, .int .i64 b, .int .i64 c] w (Ends (scQ (a * b) c) (scR (a * b) c) (scO (a * b) c) w) := by
  have hsa := abs_bd a ha
  have hsb := abs_bd b hb
  have s := S.out
  have s1 := s.A0; have s2 := s.A1; have s3 := s.C0; have s4 := s.C1; have s5 := s.qn; have s6 := s.rn; have s7 := s.rl
  have eA := s.eA; have eC := s.eC; have eq := s.eq; have er := s.er
  have s8 := s.lim (by omega)
  clear s
  have HC := Lib.hid (S.out.cpos n3)
  have hm : minus a b = decide (c < 0) := by simp [minus, n1, n2, n3]
  have K := S.out.same h0 hm
  by_cases hq : q0 ≤ 9223372036854775807
  · obtain ⟨k1, k2, k3⟩ := K.1 hq
    rw [if_neg n3] at k3
    rw [k1, k2, k3]
    clear k1 k2 k3 K hm
    go_enter Tryz.func101, Tryz.ntmps101
    go_wp2_with (first | (go_at_call_of 135 a; refine (rsize_any a _ ha).mono ?_; rintro e w' ⟨rfl, rfl⟩) | (go_at_call_of 135 b; refine (rsize_any b _ hb).mono ?_; rintro e w' ⟨rfl, rfl⟩) | (go_at_call_of 135 c; refine (rsize_any c _ hc).mono ?_; rintro e w' ⟨rfl, rfl⟩) | (go_at_call 134; refine (times_any _ _ _ (by omega) (by omega) (by omega) (by omega)).mono ?_; rintro e w' ⟨rfl, rfl⟩) | (go_at_call 136; refine (by_N A _ _ _ _ (by omega) (by omega) (by omega) (by omega) (by omega) (by omega)).mono ?_; rintro e w' ⟨rfl, rfl⟩))
    all_goals
      go_ret3
      have hC := HC.out
      refine ⟨retT ?_ ?_ rfl, rfl⟩
      all_goals first | rfl | omega | exact w64n _ (by omega) | (rw [uw]; unfold wrap64; omega)
  · obtain ⟨k1, k2, k3⟩ := K.2 (by omega)
    rw [k1, k2, k3]
    clear k1 k2 k3 K hm
    go_enter Tryz.func101, Tryz.ntmps101
    go_wp2_with (first | (go_at_call_of 135 a; refine (rsize_any a _ ha).mono ?_; rintro e w' ⟨rfl, rfl⟩) | (go_at_call_of 135 b; refine (rsize_any b _ hb).mono ?_; rintro e w' ⟨rfl, rfl⟩) | (go_at_call_of 135 c; refine (rsize_any c _ hc).mono ?_; rintro e w' ⟨rfl, rfl⟩) | (go_at_call 134; refine (times_any _ _ _ (by omega) (by omega) (by omega) (by omega)).mono ?_; rintro e w' ⟨rfl, rfl⟩) | (go_at_call 136; refine (by_N A _ _ _ _ (by omega) (by omega) (by omega) (by omega) (by omega) (by omega)).mono ?_; rintro e w' ⟨rfl, rfl⟩))
    all_goals
      go_ret3
      have hC := HC.out
      refine ⟨retT ?_ ?_ rfl, rfl⟩
      all_goals first | rfl | omega | exact w64n _ (by omega) | (rw [uw]; unfold wrap64; omega)
set_option maxHeartbeats 2000000 in
theorem rs_npn (a b c A C q0 r0 : Int) (w : World) (ha : -9223372036854775808 ≤ a ∧ a ≤ 9223372036854775807) (hb : -9223372036854775808 ≤ b ∧ b ≤ 9223372036854775807) (hc : -9223372036854775808 ≤ c ∧ c ≤ 9223372036854775807)
    (hcb : (c == 0) = false) (h0 : ¬ c = 0) (S : Hid (Sc a b c A C q0 r0)) (hbig : ¬ C ≤ A / 18446744073709551616) (n1 : a < 0) (n2 : ¬ b < 0) (n3 : c < 0) :
    Calls Tryz.prog 101 #[.int .i64 a, .int .i64 b, .int .i64 c] w (Ends (scQ (a * b) c) (scR (a * b) c) (scO (a * b) c) w) := by
  have hsa := abs_bd a ha
  have hsb := abs_bd b hb
  have s := S.out
  have s1 := s.A0; have s2 := s.A1; have s3 := s.C0; have s4 := s.C1; have s5 := s.qn; have s6 := s.rn; have s7 := s.rl
  have eA := s.eA; have eC := s.eC; have eq := s.eq; have er := s.er
  have s8 := s.lim (by omega)
  clear s
  have HC := Lib.hid (S.out.cneg n3)
  have hm : minus a b = decide (c < 0) := by simp [minus, n1, n2, n3]
  have K := S.out.same h0 hm
  by_cases hq : q0 ≤ 9223372036854775807
  · obtain ⟨k1, k2, k3⟩ := K.1 hq
    rw [if_pos n3] at k3
    rw [k1, k2, k3]
    clear k1 k2 k3 K hm
    go_enter Tryz.func101, Tryz.ntmps101
    go_wp2_with (first | (go_at_call_of 135 a; refine (rsize_any a _ ha).mono ?_; rintro e w' ⟨rfl, rfl⟩) | (go_at_call_of 135 b; refine (rsize_any b _ hb).mono ?_; rintro e w' ⟨rfl, rfl⟩) | (go_at_call_of 135 c; refine (rsize_any c _ hc).mono ?_; rintro e w' ⟨rfl, rfl⟩) | (go_at_call 134; refine (times_any _ _ _ (by omega) (by omega) (by omega) (by omega)).mono ?_; rintro e w' ⟨rfl, rfl⟩) | (go_at_call 136; refine (by_N A _ _ _ _ (by omega) (by omega) (by omega) (by omega) (by omega) (by omega)).mono ?_; rintro e w' ⟨rfl, rfl⟩))
    all_goals
      go_ret3
      have hC := HC.out
      refine ⟨retT ?_ ?_ rfl, rfl⟩
      all_goals first | rfl | omega | exact w64n _ (by omega) | (rw [uw]; unfold wrap64; omega)
  · obtain ⟨k1, k2, k3⟩ := K.2 (by omega)
    rw [k1, k2, k3]
    clear k1 k2 k3 K hm
    go_enter Tryz.func101, Tryz.ntmps101
    go_wp2_with (first | (go_at_call_of 135 a; refine (rsize_any a _ ha).mono ?_; rintro e w' ⟨rfl, rfl⟩) | (go_at_call_of 135 b; refine (rsize_any b _ hb).mono ?_; rintro e w' ⟨rfl, rfl⟩) | (go_at_call_of 135 c; refine (rsize_any c _ hc).mono ?_; rintro e w' ⟨rfl, rfl⟩) | (go_at_call 134; refine (times_any _ _ _ (by omega) (by omega) (by omega) (by omega)).mono ?_; rintro e w' ⟨rfl, rfl⟩) | (go_at_call 136; refine (by_N A _ _ _ _ (by omega) (by omega) (by omega) (by omega) (by omega) (by omega)).mono ?_; rintro e w' ⟨rfl, rfl⟩))
    all_goals
      go_ret3
      have hC := HC.out
      refine ⟨retT ?_ ?_ rfl, rfl⟩
      all_goals first | rfl | omega | exact w64n _ (by omega) | (rw [uw]; unfold wrap64; omega)
set_option maxHeartbeats 2000000 in
theorem rs_npp (a b c A C q0 r0 : Int) (w : World) (ha : -9223372036854775808 ≤ a ∧ a ≤ 9223372036854775807) (hb : -9223372036854775808 ≤ b ∧ b ≤ 9223372036854775807) (hc : -9223372036854775808 ≤ c ∧ c ≤ 9223372036854775807)
    (hcb : (c == 0) = false) (h0 : ¬ c = 0) (S : Hid (Sc a b c A C q0 r0)) (hbig : ¬ C ≤ A / 18446744073709551616) (n1 : a < 0) (n2 : ¬ b < 0) (n3 : ¬ c < 0) :
    Calls Tryz.prog 101 #[.int .i64 a, .int .i64 b, .int .i64 c] w (Ends (scQ (a * b) c) (scR (a * b) c) (scO (a * b) c) w) := by
  have hsa := abs_bd a ha
  have hsb := abs_bd b hb
  have s := S.out
  have s1 := s.A0; have s2 := s.A1; have s3 := s.C0; have s4 := s.C1; have s5 := s.qn; have s6 := s.rn; have s7 := s.rl
  have eA := s.eA; have eC := s.eC; have eq := s.eq; have er := s.er
  have s8 := s.lim (by omega)
  clear s
  have HC := Lib.hid (S.out.cpos n3)
  have hm : minus a b ≠ decide (c < 0) := by simp [minus, n1, n2, n3]
  have hmm : minus a b = true := by simp [minus, n1, n2]
  by_cases hr : r0 = 0
  · have K := S.out.even h0 hm hr
    have K2 := S.out.big
    by_cases hq : q0 ≤ 9223372036854775808
    · obtain ⟨k1, k2, k3⟩ := K hq
      rw [k1, k2, k3]
      clear k1 k2 k3 K K2 hm hmm
      go_enter Tryz.func101, Tryz.ntmps101
      go_wp2_with (first | (go_at_call_of 135 a; refine (rsize_any a _ ha).mono ?_; rintro e w' ⟨rfl, rfl⟩) | (go_at_call_of 135 b; refine (rsize_any b _ hb).mono ?_; rintro e w' ⟨rfl, rfl⟩) | (go_at_call_of 135 c; refine (rsize_any c _ hc).mono ?_; rintro e w' ⟨rfl, rfl⟩) | (go_at_call 134; refine (times_any _ _ _ (by omega) (by omega) (by omega) (by omega)).mono ?_; rintro e w' ⟨rfl, rfl⟩) | (go_at_call 136; refine (by_N A _ _ _ _ (by omega) (by omega) (by omega) (by omega) (by omega) (by omega)).mono ?_; rintro e w' ⟨rfl, rfl⟩))
      all_goals
        go_ret3
        have hC := HC.out
        refine ⟨retT ?_ ?_ rfl, rfl⟩
        all_goals first | rfl | omega | exact w64n _ (by omega) | (rw [uw]; unfold wrap64; omega)
    · obtain ⟨k1, k2, k3⟩ := K2 (by omega)
      rw [k1, k2, k3]
      clear k1 k2 k3 K K2 hm hmm
      go_enter Tryz.func101, Tryz.ntmps101
      go_wp2_with (first | (go_at_call_of 135 a; refine (rsize_any a _ ha).mono ?_; rintro e w' ⟨rfl, rfl⟩) | (go_at_call_of 135 b; refine (rsize_any b _ hb).mono ?_; rintro e w' ⟨rfl, rfl⟩) | (go_at_call_of 135 c; refine (rsize_any c _ hc).mono ?_; rintro e w' ⟨rfl, rfl⟩) | (go_at_call 134; refine (times_any _ _ _ (by omega) (by omega) (by omega) (by omega)).mono ?_; rintro e w' ⟨rfl, rfl⟩) | (go_at_call 136; refine (by_N A _ _ _ _ (by omega) (by omega) (by omega) (by omega) (by omega) (by omega)).mono ?_; rintro e w' ⟨rfl, rfl⟩))
      all_goals
        go_ret3
        have hC := HC.out
        refine ⟨retT ?_ ?_ rfl, rfl⟩
        all_goals first | rfl | omega | exact w64n _ (by omega) | (rw [uw]; unfold wrap64; omega)
  · have K := S.out.odd h0 hm (by omega)
    by_cases hq : q0 ≤ 9223372036854775807
    · obtain ⟨k1, k2, k3⟩ := K.1 hq
      rw [hmm] at k3
      rw [k1, k2, k3]
      clear k1 k2 k3 K hm hmm
      go_enter Tryz.func101, Tryz.ntmps101
      go_wp2_with (first | (go_at_call_of 135 a; refine (rsize_any a _ ha).mono ?_; rintro e w' ⟨rfl, rfl⟩) | (go_at_call_of 135 b; refine (rsize_any b _ hb).mono ?_; rintro e w' ⟨rfl, rfl⟩) | (go_at_call_of 135 c; refine (rsize_any c _ hc).mono ?_; rintro e w' ⟨rfl, rfl⟩) | (go_at_call 134; refine (times_any _ _ _ (by omega) (by omega) (by omega) (by omega)).mono ?_; rintro e w' ⟨rfl, rfl⟩) | (go_at_call 136; refine (by_N A _ _ _ _ (by omega) (by omega) (by omega) (by omega) (by omega) (by omega)).mono ?_; rintro e w' ⟨rfl, rfl⟩))
      all_goals
        go_ret3
        have hC := HC.out
        refine ⟨retT ?_ ?_ rfl, rfl⟩
        all_goals first | rfl | omega | exact w64n _ (by omega) | (rw [uw]; unfold wrap64; omega)
    · obtain ⟨k1, k2, k3⟩ := K.2 (by omega)
      rw [k1, k2, k3]
      clear k1 k2 k3 K hm hmm
      go_enter Tryz.func101, Tryz.ntmps101
      go_wp2_with (first | (go_at_call_of 135 a; refine (rsize_any a _ ha).mono ?_; rintro e w' ⟨rfl, rfl⟩) | (go_at_call_of 135 b; refine (rsize_any b _ hb).mono ?_; rintro e w' ⟨rfl, rfl⟩) | (go_at_call_of 135 c; refine (rsize_any c _ hc).mono ?_; rintro e w' ⟨rfl, rfl⟩) | (go_at_call 134; refine (times_any _ _ _ (by omega) (by omega) (by omega) (by omega)).mono ?_; rintro e w' ⟨rfl, rfl⟩) | (go_at_call 136; refine (by_N A _ _ _ _ (by omega) (by omega) (by omega) (by omega) (by omega) (by omega)).mono ?_; rintro e w' ⟨rfl, rfl⟩))
      all_goals
        go_ret3
        have hC := HC.out
        refine ⟨retT ?_ ?_ rfl, rfl⟩
        all_goals first | rfl | omega | exact w64n _ (by omega) | (rw [uw]; unfold wrap64; omega)
set_option maxHeartbeats 2000000 in
theorem rs_pnn (a b c A C q0 r0 : Int) (w : World) (ha : -9223372036854775808 ≤ a ∧ a ≤ 9223372036854775807) (hb : -9223372036854775808 ≤ b ∧ b ≤ 9223372036854775807) (hc : -9223372036854775808 ≤ c ∧ c ≤ 9223372036854775807)
    (hcb : (c == 0) = false) (h0 : ¬ c = 0) (S : Hid (Sc a b c A C q0 r0)) (hbig : ¬ C ≤ A / 18446744073709551616) (n1 : ¬ a < 0) (n2 : b < 0) (n3 : c < 0) :
    Calls Tryz.prog 101 #[.int .i64 a, .int .i64 b, .int .i64 c] w (Ends (scQ (a * b) c) (scR (a * b) c) (scO (a * b) c) w) := by
  have hsa := abs_bd a ha
  have hsb := abs_bd b hb
  have s := S.out
  have s1 := s.A0; have s2 := s.A1; have s3 := s.C0; have s4 := s.C1; have s5 := s.qn; have s6 := s.rn; have s7 := s.rl
  have eA := s.eA; have eC := s.eC; have eq := s.eq; have er := s.er
  have s8 := s.lim (by omega)
  clear s
  have HC := Lib.hid (S.out.cneg n3)
  have hm : minus a b = decide (c < 0) := by simp [minus, n1, n2, n3]
  have K := S.out.same h0 hm
  by_cases hq : q0 ≤ 9223372036854775807
  · obtain ⟨k1, k2, k3⟩ := K.1 hq
    rw [if_pos n3] at k3
    rw [k1, k2, k3]
    clear k1 k2 k3 K hm
    go_enter Tryz.func101, Tryz.ntmps101
    go_wp2_with (first | (go_at_call_of 135 a; refine (rsize_any a _ ha).mono ?_; rintro e w' ⟨rfl, rfl⟩) | (go_at_call_of 135 b; refine (rsize_any b _ hb).mono ?_; rintro e w' ⟨rfl, rfl⟩) | (go_at_call_of 135 c; refine (rsize_any c _ hc).mono ?_; rintro e w' ⟨rfl, rfl⟩) | (go_at_call 134; refine (times_any _ _ _ (by omega) (by omega) (by omega) (by omega)).mono ?_; rintro e w' ⟨rfl, rfl⟩) | (go_at_call 136; refine (by_N A _ _ _ _ (by omega) (by omega) (by omega) (by omega) (by omega) (by omega)).mono ?_; rintro e w' ⟨rfl, rfl⟩))
    all_goals
      go_ret3
      have hC := HC.out
      refine ⟨retT ?_ ?_ rfl, rfl⟩
      all_goals first | rfl | omega | exact w64n _ (by omega) | (rw [uw]; unfold wrap64; omega)
  · obtain ⟨k1, k2, k3⟩ := K.2 (by omega)
    rw [k1, k2, k3]
    clear k1 k2 k3 K hm
    go_enter Tryz.func101, Tryz.ntmps101
    go_wp2_with (first | (go_at_call_of 135 a; refine (rsize_any a _ ha).mono ?_; rintro e w' ⟨rfl, rfl⟩) | (go_at_call_of 135 b; refine (rsize_any b _ hb).mono ?_; rintro e w' ⟨rfl, rfl⟩) | (go_at_call_of 135 c; refine (rsize_any c _ hc).mono ?_; rintro e w' ⟨rfl, rfl⟩) | (go_at_call 134; refine (times_any _ _ _ (by omega) (by omega) (by omega) (by omega)).mono ?_; rintro e w' ⟨rfl, rfl⟩) | (go_at_call 136; refine (by_N A _ _ _ _ (by omega) (by omega) (by omega) (by omega) (by omega) (by omega)).mono ?_; rintro e w' ⟨rfl, rfl⟩))
    all_goals
      go_ret3
      have hC := HC.out
      refine ⟨retT ?_ ?_ rfl, rfl⟩
      all_goals first | rfl | omega | exact w64n _ (by omega) | (rw [uw]; unfold wrap64; omega)
set_option maxHeartbeats 2000000 in
theorem rs_pnp (a b c A C q0 r0 : Int) (w : World) (ha : -9223372036854775808 ≤ a ∧ a ≤ 9223372036854775807) (hb : -9223372036854775808 ≤ b ∧ b ≤ 9223372036854775807) (hc : -9223372036854775808 ≤ c ∧ c ≤ 9223372036854775807)
    (hcb : (c == 0) = false) (h0 : ¬ c = 0) (S : Hid (Sc a b c A C q0 r0)) (hbig : ¬ C ≤ A / 18446744073709551616) (n1 : ¬ a < 0) (n2 : b < 0) (n3 : ¬ c < 0) :
    Calls Tryz.prog 101 #[.int .i64 a, .int .i64 b, .int .i64 c] w (Ends (scQ (a * b) c) (scR (a * b) c) (scO (a * b) c) w) := by
  have hsa := abs_bd a ha
  have hsb := abs_bd b hb
  have s := S.out
  have s1 := s.A0; have s2 := s.A1; have s3 := s.C0; have s4 := s.C1; have s5 := s.qn; have s6 := s.rn; have s7 := s.rl
  have eA := s.eA; have eC := s.eC; have eq := s.eq; have er := s.er
  have s8 := s.lim (by omega)
  clear s
  have HC := Lib.hid (S.out.cpos n3)
  have hm : minus a b ≠ decide (c < 0) := by simp [minus, n1, n2, n3]
  have hmm : minus a b = true := by simp [minus, n1, n2]
  by_cases hr : r0 = 0
  · have K := S.out.even h0 hm hr
    have K2 := S.out.big
    by_cases hq : q0 ≤ 9223372036854775808
    · obtain ⟨k1, k2, k3⟩ := K hq
      rw [k1, k2, k3]
      clear k1 k2 k3 K K2 hm hmm
      go_enter Tryz.func101, Tryz.ntmps101
      go_wp2_with (first | (go_at_call_of 135 a; refine (rsize_any a _ ha).mono ?_; rintro e w' ⟨rfl, rfl⟩) | (go_at_call_of 135 b; refine (rsize_any b _ hb).mono ?_; rintro e w' ⟨rfl, rfl⟩) | (go_at_call_of 135 c; refine (rsize_any c _ hc).mono ?_; rintro e w' ⟨rfl, rfl⟩) | (go_at_call 134; refine (times_any _ _ _ (by omega) (by omega) (by omega) (by omega)).mono ?_; rintro e w' ⟨rfl, rfl⟩) | (go_at_call 136; refine (by_N A _ _ _ _ (by omega) (by omega) (by omega) (by omega) (by omega) (by omega)).mono ?_; rintro e w' ⟨rfl, rfl⟩))
      all_goals
        go_ret3
        have hC := HC.out
        refine ⟨retT ?_ ?_ rfl, rfl⟩
        all_goals first | rfl | omega | exact w64n _ (by omega) | (rw [uw]; unfold wrap64; omega)
    · obtain ⟨k1, k2, k3⟩ := K2 (by omega)
      rw [k1, k2, k3]
      clear k1 k2 k3 K K2 hm hmm
      go_enter Tryz.func101, Tryz.ntmps101
      go_wp2_with (first | (go_at_call_of 135 a; refine (rsize_any a _ ha).mono ?_; rintro e w' ⟨rfl, rfl⟩) | (go_at_call_of 135 b; refine (rsize_any b _ hb).mono ?_; rintro e w' ⟨rfl, rfl⟩) | (go_at_call_of 135 c; refine (rsize_any c _ hc).mono ?_; rintro e w' ⟨rfl, rfl⟩) | (go_at_call 134; refine (times_any _ _ _ (by omega) (by omega) (by omega) (by omega)).mono ?_; rintro e w' ⟨rfl, rfl⟩) | (go_at_call 136; refine (by_N A _ _ _ _ (by omega) (by omega) (by omega) (by omega) (by omega) (by omega)).mono ?_; rintro e w' ⟨rfl, rfl⟩))
      all_goals
        go_ret3
        have hC := HC.out
        refine ⟨retT ?_ ?_ rfl, rfl⟩
        all_goals first | rfl | omega | exact w64n _ (by omega) | (rw [uw]; unfold wrap64; omega)
  · have K := S.out.odd h0 hm (by omega)
    by_cases hq : q0 ≤ 9223372036854775807
    · obtain ⟨k1, k2, k3⟩ := K.1 hq
      rw [hmm] at k3
      rw [k1, k2, k3]
      clear k1 k2 k3 K hm hmm
      go_enter Tryz.func101, Tryz.ntmps101
      go_wp2_with (first | (go_at_call_of 135 a; refine (rsize_any a _ ha).mono ?_; rintro e w' ⟨rfl, rfl⟩) | (go_at_call_of 135 b; refine (rsize_any b _ hb).mono ?_; rintro e w' ⟨rfl, rfl⟩) | (go_at_call_of 135 c; refine (rsize_any c _ hc).mono ?_; rintro e w' ⟨rfl, rfl⟩) | (go_at_call 134; refine (times_any _ _ _ (by omega) (by omega) (by omega) (by omega)).mono ?_; rintro e w' ⟨rfl, rfl⟩) | (go_at_call 136; refine (by_N A _ _ _ _ (by omega) (by omega) (by omega) (by omega) (by omega) (by omega)).mono ?_; rintro e w' ⟨rfl, rfl⟩))
      all_goals
        go_ret3
        have hC := HC.out
        refine ⟨retT ?_ ?_ rfl, rfl⟩
        all_goals first | rfl | omega | exact w64n _ (by omega) | (rw [uw]; unfold wrap64; omega)
    · obtain ⟨k1, k2, k3⟩ := K.2 (by omega)
      rw [k1, k2, k3]
      clear k1 k2 k3 K hm hmm
      go_enter Tryz.func101, Tryz.ntmps101
      go_wp2_with (first | (go_at_call_of 135 a; refine (rsize_any a _ ha).mono ?_; rintro e w' ⟨rfl, rfl⟩) | (go_at_call_of 135 b; refine (rsize_any b _ hb).mono ?_; rintro e w' ⟨rfl, rfl⟩) | (go_at_call_of 135 c; refine (rsize_any c _ hc).mono ?_; rintro e w' ⟨rfl, rfl⟩) | (go_at_call 134; refine (times_any _ _ _ (by omega) (by omega) (by omega) (by omega)).mono ?_; rintro e w' ⟨rfl, rfl⟩) | (go_at_call 136; refine (by_N A _ _ _ _ (by omega) (by omega) (by omega) (by omega) (by omega) (by omega)).mono ?_; rintro e w' ⟨rfl, rfl⟩))
      all_goals
        go_ret3
        have hC := HC.out
        refine ⟨retT ?_ ?_ rfl, rfl⟩
        all_goals first | rfl | omega | exact w64n _ (by omega) | (rw [uw]; unfold wrap64; omega)
set_option maxHeartbeats 2000000 in
theorem rs_ppn (a b c A C q0 r0 : Int) (w : World) (ha : -9223372036854775808 ≤ a ∧ a ≤ 9223372036854775807) (hb : -9223372036854775808 ≤ b ∧ b ≤ 9223372036854775807) (hc : -9223372036854775808 ≤ c ∧ c ≤ 9223372036854775807)
    (hcb : (c == 0) = false) (h0 : ¬ c = 0) (S : Hid (Sc a b c A C q0 r0)) (hbig : ¬ C ≤ A / 18446744073709551616) (n1 : ¬ a < 0) (n2 : ¬ b < 0) (n3 : c < 0) :
    Calls Tryz.prog 101 #[.int .i64 a, .int .i64 b, .int .i64 c] w (Ends (scQ (a * b) c) (scR (a * b) c) (scO (a * b) c) w) := by
  have hsa := abs_bd a ha
  have hsb := abs_bd b hb
  have s := S.out
  have s1 := s.A0; have s2 := s.A1; have s3 := s.C0; have s4 := s.C1; have s5 := s.qn; have s6 := s.rn; have s7 := s.rl
  have eA := s.eA; have eC := s.eC; have eq := s.eq; have er := s.er
  have s8 := s.lim (by omega)
  clear s
  have HC := Lib.hid (S.out.cneg n3)
  have hm : minus a b ≠ decide (c < 0) := by simp [minus, n1, n2, n3]
  have hmm : minus a b = false := by simp [minus, n1, n2]
  by_cases hr : r0 = 0
  · have K := S.out.even h0 hm hr
    have K2 := S.out.big
    by_cases hq : q0 ≤ 9223372036854775808
    · obtain ⟨k1, k2, k3⟩ := K hq
      rw [k1, k2, k3]
      clear k1 k2 k3 K K2 hm hmm
      go_enter Tryz.func101, Tryz.ntmps101
      go_wp2_with (first | (go_at_call_of 135 a; refine (rsize_any a _ ha).mono ?_; rintro e w' ⟨rfl, rfl⟩) | (go_at_call_of 135 b; refine (rsize_any b _ hb).mono ?_; rintro e w' ⟨rfl, rfl⟩) | (go_at_call_of 135 c; refine (rsize_any c _ hc).mono ?_; rintro e w' ⟨rfl, rfl⟩) | (go_at_call 134; refine (times_any _ _ _ (by omega) (by omega) (by omega) (by omega)).mono ?_; rintro e w' ⟨rfl, rfl⟩) | (go_at_call 136; refine (by_N A _ _ _ _ (by omega) (by omega) (by omega) (by omega) (by omega) (by omega)).mono ?_; rintro e w' ⟨rfl, rfl⟩))
      all_goals
        go_ret3
        have hC := HC.out
        refine ⟨retT ?_ ?_ rfl, rfl⟩
        all_goals first | rfl | omega | exact w64n _ (by omega) | (rw [uw]; unfold wrap64; omega)
    · obtain ⟨k1, k2, k3⟩ := K2 (by omega)
      rw [k1, k2, k3]
      clear k1 k2 k3 K K2 hm hmm
      go_enter Tryz.func101, Tryz.ntmps101
      go_wp2_with (first | (go_at_call_of 135 a; refine (rsize_any a _ ha).mono ?_; rintro e w' ⟨rfl, rfl⟩) | (go_at_call_of 135 b; refine (rsize_any b _ hb).mono ?_; rintro e w' ⟨rfl, rfl⟩) | (go_at_call_of 135 c; refine (rsize_any c _ hc).mono ?_; rintro e w' ⟨rfl, rfl⟩) | (go_at_call 134; refine (times_any _ _ _ (by omega) (by omega) (by omega) (by omega)).mono ?_; rintro e w' ⟨rfl, rfl⟩) | (go_at_call 136; refine (by_N A _ _ _ _ (by omega) (by omega) (by omega) (by omega) (by omega) (by omega)).mono ?_; rintro e w' ⟨rfl, rfl⟩))
      all_goals
        go_ret3
        have hC := HC.out
        refine ⟨retT ?_ ?_ rfl, rfl⟩
        all_goals first | rfl | omega | exact w64n _ (by omega) | (rw [uw]; unfold wrap64; omega)
  · have K := S.out.odd h0 hm (by omega)
    by_cases hq : q0 ≤ 9223372036854775807
    · obtain ⟨k1, k2, k3⟩ := K.1 hq
      rw [hmm] at k3
      rw [k1, k2, k3]
      clear k1 k2 k3 K hm hmm
      go_enter Tryz.func101, Tryz.ntmps101
      go_wp2_with (first | (go_at_call_of 135 a; refine (rsize_any a _ ha).mono ?_; rintro e w' ⟨rfl, rfl⟩) | (go_at_call_of 135 b; refine (rsize_any b _ hb).mono ?_; rintro e w' ⟨rfl, rfl⟩) | (go_at_call_of 135 c; refine (rsize_any c _ hc).mono ?_; rintro e w' ⟨rfl, rfl⟩) | (go_at_call 134; refine (times_any _ _ _ (by omega) (by omega) (by omega) (by omega)).mono ?_; rintro e w' ⟨rfl, rfl⟩) | (go_at_call 136; refine (by_N A _ _ _ _ (by omega) (by omega) (by omega) (by omega) (by omega) (by omega)).mono ?_; rintro e w' ⟨rfl, rfl⟩))
      all_goals
        go_ret3
        have hC := HC.out
        refine ⟨retT ?_ ?_ rfl, rfl⟩
        all_goals first | rfl | omega | exact w64n _ (by omega) | (rw [uw]; unfold wrap64; omega)
    · obtain ⟨k1, k2, k3⟩ := K.2 (by omega)
      rw [k1, k2, k3]
      clear k1 k2 k3 K hm hmm
      go_enter Tryz.func101, Tryz.ntmps101
      go_wp2_with (first | (go_at_call_of 135 a; refine (rsize_any a _ ha).mono ?_; rintro e w' ⟨rfl, rfl⟩) | (go_at_call_of 135 b; refine (rsize_any b _ hb).mono ?_; rintro e w' ⟨rfl, rfl⟩) | (go_at_call_of 135 c; refine (rsize_any c _ hc).mono ?_; rintro e w' ⟨rfl, rfl⟩) | (go_at_call 134; refine (times_any _ _ _ (by omega) (by omega) (by omega) (by omega)).mono ?_; rintro e w' ⟨rfl, rfl⟩) | (go_at_call 136; refine (by_N A _ _ _ _ (by omega) (by omega) (by omega) (by omega) (by omega) (by omega)).mono ?_; rintro e w' ⟨rfl, rfl⟩))
      all_goals
        go_ret3
        have hC := HC.out
        refine ⟨retT ?_ ?_ rfl, rfl⟩
        all_goals first | rfl | omega | exact w64n _ (by omega) | (rw [uw]; unfold wrap64; omega)
set_option maxHeartbeats 2000000 in
theorem rs_ppp (a b c A C q0 r0 : Int) (w : World) (ha : -9223372036854775808 ≤ a ∧ a ≤ 9223372036854775807) (hb : -9223372036854775808 ≤ b ∧ b ≤ 9223372036854775807) (hc : -9223372036854775808 ≤ c ∧ c ≤ 9223372036854775807)
    (hcb : (c == 0) = false) (h0 : ¬ c = 0) (S : Hid (Sc a b c A C q0 r0)) (hbig : ¬ C ≤ A / 18446744073709551616) (n1 : ¬ a < 0) (n2 : ¬ b < 0) (n3 : ¬ c < 0) :
    Calls Tryz.prog 101 #[.int .i64 a, .int .i64 b, .int .i64 c] w (Ends (scQ (a * b) c) (scR (a * b) c) (scO (a * b) c) w) := by
  have hsa := abs_bd a ha
  have hsb := abs_bd b hb
  have s := S.out
  have s1 := s.A0; have s2 := s.A1; have s3 := s.C0; have s4 := s.C1; have s5 := s.qn; have s6 := s.rn; have s7 := s.rl
  have eA := s.eA; have eC := s.eC; have eq := s.eq; have er := s.er
  have s8 := s.lim (by omega)
  clear s
  have HC := Lib.hid (S.out.cpos n3)
  have d1 : decide (a < 0) = false := by simpa using n1
  have d2 : decide (b < 0) = false := by simpa using n2
  have d3 : decide (c < 0) = false := by simpa using n3
  have hm : minus a b = decide (c < 0) := by simp [minus, n1, n2, n3]
  have K := S.out.same h0 hm
  by_cases hq : q0 ≤ 9223372036854775807
  · obtain ⟨k1, k2, k3⟩ := K.1 hq
    rw [if_neg n3] at k3
    rw [k1, k2, k3]
    clear k1 k2 k3 K hm
    go_enter Tryz.func101, Tryz.ntmps101
    go_wp2_with (first | (go_at_call_of 135 a; refine (rsize_any a _ ha).mono ?_; rintro e w' ⟨rfl, rfl⟩) | (go_at_call_of 135 b; refine (rsize_any b _ hb).mono ?_; rintro e w' ⟨rfl, rfl⟩) | (go_at_call_of 135 c; refine (rsize_any c _ hc).mono ?_; rintro e w' ⟨rfl, rfl⟩) | (go_at_call 134; refine (times_any _ _ _ (by omega) (by omega) (by omega) (by omega)).mono ?_; rintro e w' ⟨rfl, rfl⟩) | (go_at_call 136; refine (by_N A _ _ _ _ (by omega) (by omega) (by omega) (by omega) (by omega) (by omega)).mono ?_; rintro e w' ⟨rfl, rfl⟩))
    all_goals
      go_ret3
      have hC := HC.out
      refine ⟨retT ?_ ?_ rfl, rfl⟩
      all_goals first | rfl | omega | exact w64n _ (by omega) | (rw [uw]; unfold wrap64; omega)
  · obtain ⟨k1, k2, k3⟩ := K.2 (by omega)
    rw [k1, k2, k3]
    clear k1 k2 k3 K hm
    go_enter Tryz.func101, Tryz.ntmps101
    go_wp2_with (first | (go_at_call_of 135 a; refine (rsize_any a _ ha).mono ?_; rintro e w' ⟨rfl, rfl⟩) | (go_at_call_of 135 b; refine (rsize_any b _ hb).mono ?_; rintro e w' ⟨rfl, rfl⟩) | (go_at_call_of 135 c; refine (rsize_any c _ hc).mono ?_; rintro e w' ⟨rfl, rfl⟩) | (go_at_call 134; refine (times_any _ _ _ (by omega) (by omega) (by omega) (by omega)).mono ?_; rintro e w' ⟨rfl, rfl⟩) | (go_at_call 136; refine (by_N A _ _ _ _ (by omega) (by omega) (by omega) (by omega) (by omega) (by omega)).mono ?_; rintro e w' ⟨rfl, rfl⟩))
    all_goals
      go_ret3
      have hC := HC.out
      refine ⟨retT ?_ ?_ rfl, rfl⟩
      all_goals first | rfl | omega | exact w64n _ (by omega) | (rw [uw]; unfold wrap64; omega)

set_option maxHeartbeats 1000000 in
theorem rscale_any (a b c : Int) (w : World) (ha : -9223372036854775808 ≤ a ∧ a ≤ 9223372036854775807) (hb : -9223372036854775808 ≤ b ∧ b ≤ 9223372036854775807) (hc : -9223372036854775808 ≤ c ∧ c ≤ 9223372036854775807) :
    Calls Tryz.prog 101 #[.int .i64 a, .int .i64 b, .int .i64 c] w fun e w' => e = .returned (.tuple #[.int .i64 (scQ (a * b) c), .int .i64 (scR (a * b) c), .bool (scO (a * b) c)]) ∧ w = w' := by
  have hsa := abs_bd a ha
  have hsb := abs_bd b hb
  by_cases h0 : c = 0
  · obtain ⟨z1, z2, z3⟩ := sc_no (a * b) c (.inl h0)
    rw [z1, z2, z3]
    subst h0
    clear z1 z2 z3
    go_enter Tryz.func101, Tryz.ntmps101
    go_wp2_with (first | (go_at_call_of 135 a; refine (rsize_any a _ ha).mono ?_; rintro e w' ⟨rfl, rfl⟩) | (go_at_call_of 135 b; refine (rsize_any b _ hb).mono ?_; rintro e w' ⟨rfl, rfl⟩) | (go_at_call_of 135 c; refine (rsize_any c _ hc).mono ?_; rintro e w' ⟨rfl, rfl⟩) | (go_at_call 134; refine (times_any _ _ _ (by omega) (by omega) (by omega) (by omega)).mono ?_; rintro e w' ⟨rfl, rfl⟩) | (go_at_call 136; refine (by_N A _ _ _ _ (by omega) (by omega) (by omega) (by omega) (by omega) (by omega)).mono ?_; rintro e w' ⟨rfl, rfl⟩))
    go_ret3
    exact ⟨rfl, rfl⟩
  obtain ⟨A, C, q0, r0, s⟩ := sc_data a b c ha hb hc h0
  have hcb : (c == 0) = false := by rw [beq_eq_false_iff_ne]; exact h0
  by_cases hbig : C ≤ A / 18446744073709551616
  · obtain ⟨z1, z2, z3⟩ := s.big (s.over hbig)
    rw [z1, z2, z3]
    have s1 := s.A0; have s2 := s.A1; have s3 := s.C0; have s4 := s.C1
    have eA := s.eA; have eC := s.eC
    clear z1 z2 z3 s
    go_enter Tryz.func101, Tryz.ntmps101
    go_wp2_with (first | (go_at_call_of 135 a; refine (rsize_any a _ ha).mono ?_; rintro e w' ⟨rfl, rfl⟩) | (go_at_call_of 135 b; refine (rsize_any b _ hb).mono ?_; rintro e w' ⟨rfl, rfl⟩) | (go_at_call_of 135 c; refine (rsize_any c _ hc).mono ?_; rintro e w' ⟨rfl, rfl⟩) | (go_at_call 134; refine (times_any _ _ _ (by omega) (by omega) (by omega) (by omega)).mono ?_; rintro e w' ⟨rfl, rfl⟩) | (go_at_call 136; refine (by_N A _ _ _ _ (by omega) (by omega) (by omega) (by omega) (by omega) (by omega)).mono ?_; rintro e w' ⟨rfl, rfl⟩))
    go_ret3
    exact ⟨rfl, rfl⟩
  have S := Lib.hid s
  by_cases n1 : a < 0
  · by_cases n2 : b < 0
    · by_cases n3 : c < 0
      · exact rs_nnn a b c A C q0 r0 w ha hb hc hcb h0 S hbig n1 n2 n3
      · exact rs_nnp a b c A C q0 r0 w ha hb hc hcb h0 S hbig n1 n2 n3
    · by_cases n3 : c < 0
      · exact rs_npn a b c A C q0 r0 w ha hb hc hcb h0 S hbig n1 n2 n3
      · exact rs_npp a b c A C q0 r0 w ha hb hc hcb h0 S hbig n1 n2 n3
  · by_cases n2 : b < 0
    · by_cases n3 : c < 0
      · exact rs_pnn a b c A C q0 r0 w ha hb hc hcb h0 S hbig n1 n2 n3
      · exact rs_pnp a b c A C q0 r0 w ha hb hc hcb h0 S hbig n1 n2 n3
    · by_cases n3 : c < 0
      · exact rs_ppn a b c A C q0 r0 w ha hb hc hcb h0 S hbig n1 n2 n3
      · exact rs_ppp a b c A C q0 r0 w ha hb hc hcb h0 S hbig n1 n2 n3
end Go.Proofs.YtobijdfnafnodaaGreatDoor.Ce
