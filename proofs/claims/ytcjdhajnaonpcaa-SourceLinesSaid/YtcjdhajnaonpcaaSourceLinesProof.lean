/- SourceLines: for every input the law returns true, and each argument reads behind the call as it read before. No condition. -/
import Derived.Test.YtcjdhajnaonpcaaRows
import Derived.WalkKit
import Derived.ProofKit
import Derived.OpenShut
import Derived.Test.YtcjdhajnaonpcaaBelow
import Derived.Test.YtcjdhajnaonpcaaSrcLaw
import Derived.ShutString
namespace Go.Proofs.Ytcjdhajnaonpcaa.sourceLines
open Go.ChangeShapes Go.WideShapes Go.ChangeAt Go.RowKit
open Go.ChangeMaps (open_string shut_string)
set_option linter.unusedVariables false      -- a walk need not use every 'w<i>' (that an integer argument fits its kind)

theorem own : ownKnob Try.prog.godebug = none := by kernel_rfl

/-! ### the walk: the Go text returns true -/
set_option maxRecDepth 100000 in
set_option maxHeartbeats 2000000 in
theorem walk (a0 : ByteArray) (w0 : a0.size ≤ maxLen) (w : World) :
    Calls Try.prog 7 #[.string a0] w fun e w' => e = .returned (.bool true) ∧ Below w.heap.size w w' := by
  obtain ⟨xs, hx, rfl⟩ : ∃ xs, bytesOk xs ∧ a0 = strOfNums xs := ⟨bytesOf a0, bytesOf_ok a0, (str_of a0).symm⟩
  have hs := str_size xs
  rw [hs] at w0
  unfold maxLen at w0
  obtain ⟨n, hn⟩ : ∃ n, n = xs.length := ⟨_, rfl⟩
  rw [← hn] at hs w0
  have hn' := Lib.hid hn
  have hx' := Lib.hid hx
  clear hn hx
  by_cases hl : 200 < n
  · go_enter Try.func7, Try.ntmps7
    go_wp2_with (go_at_call 8; (with_reducible refine (awake_any _).mono ?_); rintro e w1 ⟨rfl, hb1⟩)
    go_ret
    exact ⟨rfl, hb1.out⟩
  have hl1 : xs.length ≤ 1000 := by have := hn'.out; omega
  have hl' := Lib.hid hl1
  clear hl1
  have hL := Lib.hid (fun (k : Nat) (hk : k ≤ xs.length) W h => line_from (w0 := w) (W := W) xs (k : Int) h hx'.out hl'.out (by have := hl'.out; omega))
  have hP := Lib.hid (fun (k : Nat) (hk : k ≤ xs.length) W h => place_from (w0 := w) (W := W) xs (k : Int) h hx'.out hl'.out (by have := hl'.out; omega))
  have hat := Lib.hid (fun k (hk : k < xs.length) => str_at hx'.out hk)
  generalize strOfNums xs = s at *
  go_enter Try.func7, Try.ntmps7
  go_wp2_with (go_at_call 8; (with_reducible refine (awake_any _).mono ?_); rintro e w1 ⟨rfl, hb1⟩)
  go_loopw [4, 5, 6] (fun a c i wr => ∃ k m : Nat, ∃ ln : Int, m ≤ k ∧ k ≤ n ∧ a = .int .i64 k ∧ c = .int .i64 ln ∧ i = .int .i64 m ∧ (1 ≤ ln ∧ ln ≤ k + 1) ∧ Hid (k < n → plc (xs.take k) = (ln, 1)) ∧ Hid (Below w.heap.size w wr)) (fun a _ _ _ => n - (intOf a).toNat)
  case atStart => exact ⟨0, 0, 1, Nat.le_refl _, Nat.zero_le _, rfl, rfl, rfl, by decide, Lib.hid (fun _ => rfl), hb1⟩
  case round =>
    obtain ⟨k, m, ln, hmk, hkn, rfl, rfl, rfl, hln, hpl, hbw⟩ := hrel
    clear hb1
    by_cases hk : k < n
    · have hkx : k ≤ xs.length := by have := hn'.out; omega
      have hp := hpl.out hk
      have hLk := hL.out k hkx
      have hPk := hP.out k hkx
      rw [bdN_in hkx] at hLk hPk
      rw [hp] at hPk
      have hf1 := fd_ge xs 10 k
      have hf2 := fd_le (c := 10) hkx
      have hnext : Hid (∃ j nx : Nat, behind xs.length (fd xs 10 k) = nx ∧ (nx : Int) - 1 = (j : Int) ∧ k ≤ j ∧ j < n ∧ ((xs.getD j 0 = 10 ∧ plc (xs.take nx) = (ln + 1, 1)) ∨ (¬ xs.getD j 0 = 10 ∧ nx = n))) := by
        apply Lib.hid
        have h1 := hn'.out
        by_cases h2 : fd xs 10 k < xs.length
        · refine ⟨fd xs 10 k, fd xs 10 k + 1, by rw [behind, if_pos h2], by omega, hf1, by omega, .inl ⟨fd_at xs 10 _ k rfl h2, line_step hp hkx h2⟩⟩
        · refine ⟨xs.length - 1, xs.length, by rw [behind, if_neg h2], by omega, by omega, by omega, .inr ⟨line_last (k := k) (by omega) (by omega), h1.symm⟩⟩
      obtain ⟨j, nx, hb, hj, hkj, hjn, hway⟩ := hnext.out
      rw [hb] at hLk
      replace hway := Lib.hid hway
      replace hLk := Lib.hid hLk
      replace hPk := Lib.hid hPk
      have hjx : j < xs.length := by have := hn'.out; omega
      have hy := hx'.out.get j
      have hat1 := hat.out j hjx
      have g1 : decide (nx ≤ k) = false := by simp; omega
      have g2 : decide (n < nx) = false := by simp; omega
      have hnx : 1 ≤ nx ∧ nx ≤ 1000 := by omega
      clear hb hnext hf1 hf2 hp hjx hkx hpl
      rcases hway.out with ⟨h1, h2⟩ | ⟨h1, h2⟩
      · have h3 : (xs.getD j 0 != 10) = false := by simpa using h1
        replace h2 := Lib.hid h2
        clear hway h1
        generalize xs.getD j 0 = y at *
        go_wp2_with (first | (go_at_call 13; (with_reducible refine (hLk.out _ (by assumption)).mono ?_); rintro e w2 ⟨rfl, hb2⟩) | (go_at_call 15; (with_reducible refine (hPk.out _ (by assumption)).mono ?_); rintro e w3 ⟨rfl, hb3⟩))
        exact ⟨⟨nx, m + 1, ln + 1, by omega, by omega, rfl, by go_num, by go_num, by omega, Lib.hid (fun _ => h2.out), hb3⟩, by simp only [intOf]; omega⟩
      · have h3 : (xs.getD j 0 != 10) = true := by simpa using h1
        have h4 : ((nx : Int) != (n : Int)) = false := by simp; omega
        replace h2 := Lib.hid h2
        clear hway h1
        generalize xs.getD j 0 = y at *
        go_wp2_with (first | (go_at_call 13; (with_reducible refine (hLk.out _ (by assumption)).mono ?_); rintro e w2 ⟨rfl, hb2⟩) | (go_at_call 15; (with_reducible refine (hPk.out _ (by assumption)).mono ?_); rintro e w3 ⟨rfl, hb3⟩))
        exact ⟨⟨nx, m + 1, ln + 1, by omega, by omega, rfl, by go_num, by go_num, by omega, Lib.hid (fun h => absurd h (by have := h2.out; omega)), hb3⟩, by simp only [intOf]; omega⟩
    · obtain rfl : k = n := by omega
      go_wp2
      go_ret
      exact ⟨rfl, hbw.out⟩

/-! ### THE ROW's STEP: WRITTEN OUT: LEAVE IT -/
set_option maxRecDepth 100000 in
theorem lifted (os : Os) (started : os.Started) (H : Type) (enc : TypeId × Value → H) :
    ReturnsInHanded {} Try.checked os 7 .any (Rows.sourceLinesSpec.pre6 enc Try.prog Try.f7 Rows.sourceLinesRow.domain false) (Rows.sourceLinesSpec.post enc Try.prog Try.f7 false true false false) := by
  refine returnsInHanded_of_change (C := Try.checked) own started (by kernel_rfl) Try.func7
    (ChangeSpec.witness6 (enc := enc) (C := Try.checked) false ⟨#[], #[.string ByteArray.empty], []⟩ 8 (by kernel_rfl) (by kernel_rfl) (by kernel_rfl) (by kernel_rfl)) ?_
  intro W base args ds gs before hval0 hW hcnd _
  have hval : ∀ (j : Nat) t v, Try.f7.params[j]? = some t → args[j]? = some v → Value.okWide Try.prog W .any base t v := hval0
  have hW' := hW
  obtain ⟨p, q, hA0, hV, rfl, hfz, hnd⟩ := hW
  have hA : DataW.TrodAll enc Try.prog W 0 (fun _ => true) true Try.f7.params.toList args.toList ds p := hA0
  rw [Try.params7] at hA hval
  obtain ⟨v0, vs0, d0, ds0, p0, q0, hargs, rfl, rfl, h0, r0⟩ := trodAll_cons hA
  obtain ⟨rfl, rfl, rfl⟩ := trodAll_nil r0
  obtain rfl : args = #[v0] := by cases args; simp_all
  obtain ⟨rfl, rfl⟩ := trodVars_none hV
  obtain ⟨a0, rfl, rfl, rfl, w0⟩ := open_string Try.underlying9 (hval 0 9 v0 rfl rfl) h0
  clear hA0 hval0
  simp only [List.append_nil] at hW'
  refine (walk a0 w0 W).mono fun e W' ⟨he, hg⟩ => ?_
  subst he
  exact ⟨_, rfl, post_of_below (pa := []) (pv := []) hW' (fun _ _ _ => (trodAll_cons_mk (shut_bool Try.underlying4 _) trodAll_mk0)) (fun sp _ => (trodAll_cons_mk (shut_string Try.underlying9 w0) trodAll_mk0)) (fun _ _ => rfl) rfl
    hg (ok_one (by kernel_rfl) rfl (okWide_bool_mk Try.underlying4 _))⟩

theorem over : Rows.sourceLinesRow.holds Try.pinned (OpenSpec.ofChange Rows.sourceLinesSpec) :=
  OpenClaim.holds_of_wide 7 Try.f7 rfl rfl rfl rfl rfl rfl rfl ⟨rfl, rfl, rfl, rfl, rfl⟩ rfl rfl rfl rfl rfl (by kernel_rfl) Try.func7 (by kernel_rfl)
    (of_decide_eq_true (by kernel_rfl)) (by unfold Func.isWrapper; first | (rw [if_pos (by decide +kernel)]; kernel_rfl) | (rw [if_neg (by decide +kernel)]; exact ⟨rfl, rfl⟩))
    (fun os started H enc _ => lifted os started H enc)

/-- ████ THE STATEMENT ████ -/
theorem proved : Rows.SourceLinesSaid :=
  over
#print axioms proved
end Go.Proofs.Ytcjdhajnaonpcaa.sourceLines
