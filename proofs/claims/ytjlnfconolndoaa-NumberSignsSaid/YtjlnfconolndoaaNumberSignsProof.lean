/- NumberSigns: for every input the law returns true, and each argument reads behind the call as it read before. No condition. -/
import Derived.Test.YtjlnfconolndoaaRows
import Derived.WalkKit
import Derived.ProofKit
import Derived.OpenShut
import Derived.Test.YtjlnfconolndoaaBelow
import Derived.Test.YtjlnfconolndoaaNumAwake
namespace Go.Proofs.Ytjlnfconolndoaa.numberSigns
open Go.ChangeShapes Go.WideShapes Go.ChangeAt Go.RowKit
set_option linter.unusedVariables false      -- a walk need not use every 'w<i>' (that an integer argument fits its kind)

theorem own : ownKnob Try.prog.godebug = none := by kernel_rfl

/-! ### the walk: the Go text returns true -/
theorem add_sign (c : Int) (s : ByteArray) (hs : s = strOfNums [c]) (ys : List Int) (h : ys.length ≤ 900) (W : World) : (Op.stringOp .add s (strOfNums ys)).run Try.prog W = .ok (.string (strOfNums (c :: ys))) W := by
  rw [hs]
  exact add_strs [c] ys (by simp; omega) W

set_option maxHeartbeats 1000000 in
theorem walk (a0 : Int) (a1 : Int) (w0 : (Lit.int .i64 a0).wf = true) (w1 : (Lit.int .i64 a1).wf = true) (w : World) :
    Calls Try.prog 6 #[.int .i64 a0, .int .i64 a1] w fun e w' => e = .returned (.bool true) ∧ Below w.heap.size w w' := by
  have hn := bd_i64 w0
  have hb := bd_i64 w1
  clear w0 w1
  have p0 : Hid (∀ W, Hid (Below w.heap.size w W) → Calls Try.prog 9 #[.int .i64 a0, .int .i64 10] W fun e w' => e = .returned (.tuple #[.string (strOfNums (putL a0 10)), .bool true]) ∧ Hid (Below w.heap.size w w')) := fun W h => by
    have := put_from a0 10 h hn (by decide)
    rw [isB_yes (by decide)] at this
    exact this
  have t0 : Hid (∀ W, Hid (Below w.heap.size w W) → Calls Try.prog 11 #[.string (strOfNums (35 :: putL a0 10)), .int .i64 a1] W fun e w' => e = .returned (.tuple #[.int .i64 a0, .bool true]) ∧ Hid (Below w.heap.size w w')) := fun W h => take_as _ _ a1 _ _ h rfl (bytes_cons (by decide) (bytes_put _ _)) (by have := putL_len (b := 10) hn; simp; omega) hb (take_sign a1 hn).1
  have d0 := add_sign 35 ⟨#[35]⟩ (by decide +kernel) (putL a0 10) (by have := putL_len (b := 10) hn; omega)
  have p1 : Hid (∀ W, Hid (Below w.heap.size w W) → Calls Try.prog 9 #[.int .i64 a0, .int .i64 16] W fun e w' => e = .returned (.tuple #[.string (strOfNums (putL a0 16)), .bool true]) ∧ Hid (Below w.heap.size w w')) := fun W h => by
    have := put_from a0 16 h hn (by decide)
    rw [isB_yes (by decide)] at this
    exact this
  have t1 : Hid (∀ W, Hid (Below w.heap.size w W) → Calls Try.prog 11 #[.string (strOfNums (36 :: putL a0 16)), .int .i64 a1] W fun e w' => e = .returned (.tuple #[.int .i64 a0, .bool true]) ∧ Hid (Below w.heap.size w w')) := fun W h => take_as _ _ a1 _ _ h rfl (bytes_cons (by decide) (bytes_put _ _)) (by have := putL_len (b := 16) hn; simp; omega) hb (take_sign a1 hn).2.1
  have d1 := add_sign 36 ⟨#[36]⟩ (by decide +kernel) (putL a0 16) (by have := putL_len (b := 16) hn; omega)
  have p2 : Hid (∀ W, Hid (Below w.heap.size w W) → Calls Try.prog 9 #[.int .i64 a0, .int .i64 2] W fun e w' => e = .returned (.tuple #[.string (strOfNums (putL a0 2)), .bool true]) ∧ Hid (Below w.heap.size w w')) := fun W h => by
    have := put_from a0 2 h hn (by decide)
    rw [isB_yes (by decide)] at this
    exact this
  have t2 : Hid (∀ W, Hid (Below w.heap.size w W) → Calls Try.prog 11 #[.string (strOfNums (37 :: putL a0 2)), .int .i64 a1] W fun e w' => e = .returned (.tuple #[.int .i64 a0, .bool true]) ∧ Hid (Below w.heap.size w w')) := fun W h => take_as _ _ a1 _ _ h rfl (bytes_cons (by decide) (bytes_put _ _)) (by have := putL_len (b := 2) hn; simp; omega) hb (take_sign a1 hn).2.2
  have d2 := add_sign 37 ⟨#[37]⟩ (by decide +kernel) (putL a0 2) (by have := putL_len (b := 2) hn; omega)
  generalize strOfNums (putL a0 10) = x0 at *
  generalize strOfNums (35 :: putL a0 10) = y0 at *
  generalize strOfNums (putL a0 16) = x1 at *
  generalize strOfNums (36 :: putL a0 16) = y1 at *
  generalize strOfNums (putL a0 2) = x2 at *
  generalize strOfNums (37 :: putL a0 2) = y2 at *
  go_enter Try.func6, Try.ntmps6
  go_wp2_with (first | (go_at_call 8; (with_reducible refine (awake_any _).mono ?_); rintro e w1 ⟨rfl, hb1⟩) | (go_at_call 9; (with_reducible refine (p0.out _ (by assumption)).mono ?_); rintro e w' ⟨rfl, hbp0⟩) | (go_at_call 9; (with_reducible refine (p1.out _ (by assumption)).mono ?_); rintro e w' ⟨rfl, hbp1⟩) | (go_at_call 9; (with_reducible refine (p2.out _ (by assumption)).mono ?_); rintro e w' ⟨rfl, hbp2⟩) | (go_at_call 11; (with_reducible refine (t0.out _ (by assumption)).mono ?_); rintro e w' ⟨rfl, hbt0⟩) | (go_at_call 11; (with_reducible refine (t1.out _ (by assumption)).mono ?_); rintro e w' ⟨rfl, hbt1⟩) | (go_at_call 11; (with_reducible refine (t2.out _ (by assumption)).mono ?_); rintro e w' ⟨rfl, hbt2⟩))
  go_ret
  exact ⟨rfl, hbt2.out⟩

/-! ### THE ROW's STEP: WRITTEN OUT: LEAVE IT -/
set_option maxRecDepth 100000 in
theorem lifted (os : Os) (started : os.Started) (H : Type) (enc : TypeId × Value → H) :
    ReturnsInHanded {} Try.checked os 6 .any (Rows.numberSignsSpec.pre6 enc Try.prog Try.f6 Rows.numberSignsRow.domain false) (Rows.numberSignsSpec.post enc Try.prog Try.f6 false true false false) := by
  refine returnsInHanded_of_change (C := Try.checked) own started (by kernel_rfl) Try.func6
    (ChangeSpec.witness6 (enc := enc) (C := Try.checked) false ⟨#[], #[.int .i64 0, .int .i64 0], []⟩ 8 (by kernel_rfl) (by kernel_rfl) (by kernel_rfl) (by kernel_rfl)) ?_
  intro W base args ds gs before hval0 hW hcnd _
  have hval : ∀ (j : Nat) t v, Try.f6.params[j]? = some t → args[j]? = some v → Value.okWide Try.prog W .any base t v := hval0
  have hW' := hW
  obtain ⟨p, q, hA0, hV, rfl, hfz, hnd⟩ := hW
  have hA : DataW.TrodAll enc Try.prog W 0 (fun _ => true) true Try.f6.params.toList args.toList ds p := hA0
  rw [Try.params6] at hA hval
  obtain ⟨v0, vs0, d0, ds0, p0, q0, hargs, rfl, rfl, h0, r0⟩ := trodAll_cons hA
  obtain ⟨v1, vs1, d1, ds1, p1, q1, rfl, rfl, rfl, h1, r1⟩ := trodAll_cons r0
  obtain ⟨rfl, rfl, rfl⟩ := trodAll_nil r1
  obtain rfl : args = #[v0, v1] := by cases args; simp_all
  obtain ⟨rfl, rfl⟩ := trodVars_none hV
  obtain ⟨a0, rfl, rfl, rfl, w0⟩ := open_int Try.underlying3 (hval 0 3 v0 rfl rfl) h0
  obtain ⟨a1, rfl, rfl, rfl, w1⟩ := open_int Try.underlying3 (hval 1 3 v1 rfl rfl) h1
  clear hA0 hval0
  simp only [List.append_nil] at hW'
  refine (walk a0 a1 w0 w1 W).mono fun e W' ⟨he, hg⟩ => ?_
  subst he
  exact ⟨_, rfl, post_of_below (pa := []) (pv := []) hW' (fun _ _ _ => (trodAll_cons_mk (shut_bool Try.underlying4 _) trodAll_mk0)) (fun sp _ => (trodAll_cons_mk (shut_int Try.underlying3 w0) (trodAll_cons_mk (shut_int Try.underlying3 w1) trodAll_mk0))) (fun _ _ => rfl) rfl
    hg (ok_one (by kernel_rfl) rfl (okWide_bool_mk Try.underlying4 _))⟩

theorem over : Rows.numberSignsRow.holds Try.pinned (OpenSpec.ofChange Rows.numberSignsSpec) :=
  OpenClaim.holds_of_wide 6 Try.f6 rfl rfl rfl rfl rfl rfl rfl ⟨rfl, rfl, rfl, rfl, rfl⟩ rfl rfl rfl rfl rfl (by kernel_rfl) Try.func6 (by kernel_rfl)
    (of_decide_eq_true (by kernel_rfl)) (by unfold Func.isWrapper; first | (rw [if_pos (by decide +kernel)]; kernel_rfl) | (rw [if_neg (by decide +kernel)]; exact ⟨rfl, rfl⟩))
    (fun os started H enc _ => lifted os started H enc)

/-- ████ THE STATEMENT ████ -/
theorem proved : Rows.NumberSignsSaid :=
  over
#print axioms proved
end Go.Proofs.Ytjlnfconolndoaa.numberSigns
