/- NumberOne: for every input the law returns true, and each argument reads behind the call as it read before. No condition. -/
import Derived.Test.YtjlnfconolndoaaRows
import Derived.WalkKit
import Derived.ProofKit
import Derived.OpenShut
import Derived.Test.YtjlnfconolndoaaBelow
import Derived.Test.YtjlnfconolndoaaNumAwake
namespace Go.Proofs.Ytjlnfconolndoaa.numberOne
open Go.ChangeShapes Go.WideShapes Go.ChangeAt Go.RowKit
set_option linter.unusedVariables false      -- a walk need not use every 'w<i>' (that an integer argument fits its kind)

theorem own : ownKnob Try.prog.godebug = none := by kernel_rfl

/-! ### the walk: the Go text returns true -/
set_option maxHeartbeats 1000000 in
theorem walk (a0 : Int) (a1 : Int) (a2 : Int) (w0 : (Lit.int .i64 a0).wf = true) (w1 : (Lit.int .i64 a1).wf = true) (w2 : (Lit.int .u8 a2).wf = true) (w : World) :
    Calls Try.prog 7 #[.int .i64 a0, .int .i64 a1, .int .u8 a2] w fun e w' => e = .returned (.bool true) ∧ Below w.heap.size w w' := by
  have hn := bd_i64 w0
  have hm := bd_i64 w1
  have hk := bd_u8 w2
  clear w0 w1 w2
  obtain ⟨r, hr⟩ : ∃ r, Int.tmod a2 35 = r := ⟨_, rfl⟩
  have hrb : 0 ≤ r ∧ r ≤ 34 := by
    rw [← hr]
    have h1 := Int.tmod_nonneg 35 hk.1
    have h2 := Int.tmod_lt_of_pos a2 (show (0 : Int) < 35 by decide)
    omega
  obtain ⟨B, hB⟩ : ∃ B, 2 + r = B := ⟨_, rfl⟩
  have hBb : 2 ≤ B ∧ B ≤ 36 := by omega
  obtain ⟨C, hC⟩ : ∃ C, B + 1 = C := ⟨_, rfl⟩
  have hCb : 3 ≤ C ∧ C ≤ 37 := by omega
  have hr' := Lib.hid hrb
  have p1 : Hid (∀ W, Hid (Below w.heap.size w W) → Calls Try.prog 9 #[.int .i64 a0, .int .i64 B] W fun e w' => e = .returned (.tuple #[.string (strOfNums (putL a0 B)), .bool true]) ∧ Hid (Below w.heap.size w w')) := fun W h => by
    have := put_from a0 B h hn (by omega)
    rw [isB_yes hBb] at this
    exact this
  have p2 : Hid (∀ W, Hid (Below w.heap.size w W) → Calls Try.prog 9 #[.int .i64 a1, .int .i64 B] W fun e w' => e = .returned (.tuple #[.string (strOfNums (putL a1 B)), .bool true]) ∧ Hid (Below w.heap.size w w')) := fun W h => by
    have := put_from a1 B h hm (by omega)
    rw [isB_yes hBb] at this
    exact this
  obtain ⟨o, ho⟩ : ∃ o, o = isB C := ⟨_, rfl⟩
  have p3 : Hid (∀ W, Hid (Below w.heap.size w W) → Calls Try.prog 9 #[.int .i64 a0, .int .i64 C] W fun e w' => e = .returned (.tuple #[.string (strOfNums (putL a0 C)), .bool o]) ∧ Hid (Below w.heap.size w w')) := fun W h => by
    have := put_from a0 C h hn (by omega)
    rw [← ho] at this
    exact this
  have hq : ((strOfNums (putL a0 B)).toList == (strOfNums (putL a1 B)).toList) = (a0 == a1) := by
    rw [str_beq (bytes_put _ _) (bytes_put _ _)]
    by_cases h : a0 = a1
    · subst h
      simp
    · have : ¬ putL a0 B = putL a1 B := fun hh => h (putL_inj hBb hn hm hh)
      simp [h, this]
  have hbb : ((a0 == a1) == (a0 == a1)) = true := by simp
  obtain ⟨q, hqq⟩ : ∃ q, (a0 == a1) = q := ⟨_, rfl⟩
  rw [hqq] at hq hbb
  have hend : ((B == 36) = true) ∨ ((B == 36) = false ∧ o = true ∧ decide ((strOfNums (putL a0 C)).size ≤ (strOfNums (putL a0 B)).size) = true) := by
    by_cases h : B = 36
    · exact .inl (by simp [h])
    · refine .inr ⟨by simpa using h, by rw [ho]; exact isB_yes (by omega), ?_⟩
      rw [str_size, str_size, ← hC]
      have := putL_less (n := a0) (b := B) (by omega)
      simpa using this
  have hend' := Lib.hid hend
  clear ho hend hrb
  generalize strOfNums (putL a0 B) = x at *
  generalize strOfNums (putL a1 B) = y at *
  generalize strOfNums (putL a0 C) = z at *
  rcases hend'.out with g | ⟨g, rfl, g2⟩
  all_goals clear hend'
  all_goals go_enter Try.func7, Try.ntmps7
  all_goals go_wp2_with (first | (go_at_call 8; (with_reducible refine (awake_any _).mono ?_); rintro e w1 ⟨rfl, hb1⟩) | (go_at_call 9; (with_reducible refine (p1.out _ (by assumption)).mono ?_); rintro e w' ⟨rfl, hbp1⟩) | (go_at_call 9; (with_reducible refine (p2.out _ (by assumption)).mono ?_); rintro e w' ⟨rfl, hbp2⟩) | (go_at_call 9; (with_reducible refine (p3.out _ (by assumption)).mono ?_); rintro e w' ⟨rfl, hbp3⟩))
  all_goals go_ret
  all_goals exact ⟨rfl, hbp3.out⟩

/-! ### THE ROW's STEP: WRITTEN OUT: LEAVE IT -/
set_option maxRecDepth 100000 in
theorem lifted (os : Os) (started : os.Started) (H : Type) (enc : TypeId × Value → H) :
    ReturnsInHanded {} Try.checked os 7 .any (Rows.numberOneSpec.pre6 enc Try.prog Try.f7 Rows.numberOneRow.domain false) (Rows.numberOneSpec.post enc Try.prog Try.f7 false true false false) := by
  refine returnsInHanded_of_change (C := Try.checked) own started (by kernel_rfl) Try.func7
    (ChangeSpec.witness6 (enc := enc) (C := Try.checked) false ⟨#[], #[.int .i64 0, .int .i64 0, .int .u8 0], []⟩ 8 (by kernel_rfl) (by kernel_rfl) (by kernel_rfl) (by kernel_rfl)) ?_
  intro W base args ds gs before hval0 hW hcnd _
  have hval : ∀ (j : Nat) t v, Try.f7.params[j]? = some t → args[j]? = some v → Value.okWide Try.prog W .any base t v := hval0
  have hW' := hW
  obtain ⟨p, q, hA0, hV, rfl, hfz, hnd⟩ := hW
  have hA : DataW.TrodAll enc Try.prog W 0 (fun _ => true) true Try.f7.params.toList args.toList ds p := hA0
  rw [Try.params7] at hA hval
  obtain ⟨v0, vs0, d0, ds0, p0, q0, hargs, rfl, rfl, h0, r0⟩ := trodAll_cons hA
  obtain ⟨v1, vs1, d1, ds1, p1, q1, rfl, rfl, rfl, h1, r1⟩ := trodAll_cons r0
  obtain ⟨v2, vs2, d2, ds2, p2, q2, rfl, rfl, rfl, h2, r2⟩ := trodAll_cons r1
  obtain ⟨rfl, rfl, rfl⟩ := trodAll_nil r2
  obtain rfl : args = #[v0, v1, v2] := by cases args; simp_all
  obtain ⟨rfl, rfl⟩ := trodVars_none hV
  obtain ⟨a0, rfl, rfl, rfl, w0⟩ := open_int Try.underlying3 (hval 0 3 v0 rfl rfl) h0
  obtain ⟨a1, rfl, rfl, rfl, w1⟩ := open_int Try.underlying3 (hval 1 3 v1 rfl rfl) h1
  obtain ⟨a2, rfl, rfl, rfl, w2⟩ := open_int Try.underlying5 (hval 2 5 v2 rfl rfl) h2
  clear hA0 hval0
  simp only [List.append_nil] at hW'
  refine (walk a0 a1 a2 w0 w1 w2 W).mono fun e W' ⟨he, hg⟩ => ?_
  subst he
  exact ⟨_, rfl, post_of_below (pa := []) (pv := []) hW' (fun _ _ _ => (trodAll_cons_mk (shut_bool Try.underlying4 _) trodAll_mk0)) (fun sp _ => (trodAll_cons_mk (shut_int Try.underlying3 w0) (trodAll_cons_mk (shut_int Try.underlying3 w1) (trodAll_cons_mk (shut_int Try.underlying5 w2) trodAll_mk0)))) (fun _ _ => rfl) rfl
    hg (ok_one (by kernel_rfl) rfl (okWide_bool_mk Try.underlying4 _))⟩

theorem over : Rows.numberOneRow.holds Try.pinned (OpenSpec.ofChange Rows.numberOneSpec) :=
  OpenClaim.holds_of_wide 7 Try.f7 rfl rfl rfl rfl rfl rfl rfl ⟨rfl, rfl, rfl, rfl, rfl⟩ rfl rfl rfl rfl rfl (by kernel_rfl) Try.func7 (by kernel_rfl)
    (of_decide_eq_true (by kernel_rfl)) (by unfold Func.isWrapper; first | (rw [if_pos (by decide +kernel)]; kernel_rfl) | (rw [if_neg (by decide +kernel)]; exact ⟨rfl, rfl⟩))
    (fun os started H enc _ => lifted os started H enc)

/-- ████ THE STATEMENT ████ -/
theorem proved : Rows.NumberOneSaid :=
  over
#print axioms proved
end Go.Proofs.Ytjlnfconolndoaa.numberOne
