/- NumberBack: for every input the law returns true, and each argument reads behind the call as it read before. No condition. -/
import Derived.Test.YtjlnfconolndoaaRows
import Derived.WalkKit
import Derived.ProofKit
import Derived.OpenShut
import Derived.Test.YtjlnfconolndoaaBelow
import Derived.Test.YtjlnfconolndoaaNumAwake
namespace Go.Proofs.Ytjlnfconolndoaa.numberBack
open Go.ChangeShapes Go.WideShapes Go.ChangeAt Go.RowKit
set_option linter.unusedVariables false      -- a walk need not use every 'w<i>' (that an integer argument fits its kind)

theorem own : ownKnob Try.prog.godebug = none := by kernel_rfl

/-! ### the walk: the Go text returns true -/
set_option maxHeartbeats 1000000 in
theorem walk (a0 : Int) (a1 : Int) (w0 : (Lit.int .i64 a0).wf = true) (w1 : (Lit.int .u8 a1).wf = true) (w : World) :
    Calls Try.prog 5 #[.int .i64 a0, .int .u8 a1] w fun e w' => e = .returned (.bool true) ∧ Below w.heap.size w w' := by
  have hn := bd_i64 w0
  have hk := bd_u8 w1
  clear w0 w1
  obtain ⟨r, hr⟩ : ∃ r, Int.tmod a1 35 = r := ⟨_, rfl⟩
  have hrb : 0 ≤ r ∧ r ≤ 34 := by
    rw [← hr]
    have h1 := Int.tmod_nonneg 35 hk.1
    have h2 := Int.tmod_lt_of_pos a1 (show (0 : Int) < 35 by decide)
    omega
  obtain ⟨B, hB⟩ : ∃ B, 2 + r = B := ⟨_, rfl⟩
  have hBb : 2 ≤ B ∧ B ≤ 36 := by omega
  have hr' := Lib.hid hrb
  have hput : Hid (∀ W, Hid (Below w.heap.size w W) → Calls Try.prog 9 #[.int .i64 a0, .int .i64 B] W fun e w' => e = .returned (.tuple #[.string (strOfNums (putL a0 B)), .bool true]) ∧ Hid (Below w.heap.size w w')) := fun W h => by
    have := put_from a0 B h hn (by omega)
    rw [isB_yes hBb] at this
    exact this
  have htake : Hid (∀ W, Hid (Below w.heap.size w W) → Calls Try.prog 11 #[.string (strOfNums (putL a0 B)), .int .i64 B] W fun e w' => e = .returned (.tuple #[.int .i64 a0, .bool true]) ∧ Hid (Below w.heap.size w w')) := fun W h => take_as _ _ B _ _ h rfl (bytes_put _ _) (by have := putL_len (b := B) hn; omega) (by omega) (take_put hBb hn)
  have hlen : decide (((strOfNums (putL a0 B)).size : Int) ≤ 65) = true := by rw [str_size]; have := putL_len (b := B) hn; simp; omega
  generalize strOfNums (putL a0 B) = s at *
  go_enter Try.func5, Try.ntmps5
  go_wp2_with (first | (go_at_call 8; (with_reducible refine (awake_any _).mono ?_); rintro e w1 ⟨rfl, hb1⟩) | (go_at_call 9; (with_reducible refine (hput.out _ (by assumption)).mono ?_); rintro e w2 ⟨rfl, hb2⟩) | (go_at_call 11; (with_reducible refine (htake.out _ (by assumption)).mono ?_); rintro e w3 ⟨rfl, hb3⟩))
  go_ret
  exact ⟨rfl, hb3.out⟩

/-! ### THE ROW's STEP: WRITTEN OUT: LEAVE IT -/
set_option maxRecDepth 100000 in
theorem lifted (os : Os) (started : os.Started) (H : Type) (enc : TypeId × Value → H) :
    ReturnsInHanded {} Try.checked os 5 .any (Rows.numberBackSpec.pre6 enc Try.prog Try.f5 Rows.numberBackRow.domain false) (Rows.numberBackSpec.post enc Try.prog Try.f5 false true false false) := by
  refine returnsInHanded_of_change (C := Try.checked) own started (by kernel_rfl) Try.func5
    (ChangeSpec.witness6 (enc := enc) (C := Try.checked) false ⟨#[], #[.int .i64 0, .int .u8 0], []⟩ 8 (by kernel_rfl) (by kernel_rfl) (by kernel_rfl) (by kernel_rfl)) ?_
  intro W base args ds gs before hval0 hW hcnd _
  have hval : ∀ (j : Nat) t v, Try.f5.params[j]? = some t → args[j]? = some v → Value.okWide Try.prog W .any base t v := hval0
  have hW' := hW
  obtain ⟨p, q, hA0, hV, rfl, hfz, hnd⟩ := hW
  have hA : DataW.TrodAll enc Try.prog W 0 (fun _ => true) true Try.f5.params.toList args.toList ds p := hA0
  rw [Try.params5] at hA hval
  obtain ⟨v0, vs0, d0, ds0, p0, q0, hargs, rfl, rfl, h0, r0⟩ := trodAll_cons hA
  obtain ⟨v1, vs1, d1, ds1, p1, q1, rfl, rfl, rfl, h1, r1⟩ := trodAll_cons r0
  obtain ⟨rfl, rfl, rfl⟩ := trodAll_nil r1
  obtain rfl : args = #[v0, v1] := by cases args; simp_all
  obtain ⟨rfl, rfl⟩ := trodVars_none hV
  obtain ⟨a0, rfl, rfl, rfl, w0⟩ := open_int Try.underlying3 (hval 0 3 v0 rfl rfl) h0
  obtain ⟨a1, rfl, rfl, rfl, w1⟩ := open_int Try.underlying5 (hval 1 5 v1 rfl rfl) h1
  clear hA0 hval0
  simp only [List.append_nil] at hW'
  refine (walk a0 a1 w0 w1 W).mono fun e W' ⟨he, hg⟩ => ?_
  subst he
  exact ⟨_, rfl, post_of_below (pa := []) (pv := []) hW' (fun _ _ _ => (trodAll_cons_mk (shut_bool Try.underlying4 _) trodAll_mk0)) (fun sp _ => (trodAll_cons_mk (shut_int Try.underlying3 w0) (trodAll_cons_mk (shut_int Try.underlying5 w1) trodAll_mk0))) (fun _ _ => rfl) rfl
    hg (ok_one (by kernel_rfl) rfl (okWide_bool_mk Try.underlying4 _))⟩

theorem over : Rows.numberBackRow.holds Try.pinned (OpenSpec.ofChange Rows.numberBackSpec) :=
  OpenClaim.holds_of_wide 5 Try.f5 rfl rfl rfl rfl rfl rfl rfl ⟨rfl, rfl, rfl, rfl, rfl⟩ rfl rfl rfl rfl rfl (by kernel_rfl) Try.func5 (by kernel_rfl)
    (of_decide_eq_true (by kernel_rfl)) (by unfold Func.isWrapper; first | (rw [if_pos (by decide +kernel)]; kernel_rfl) | (rw [if_neg (by decide +kernel)]; exact ⟨rfl, rfl⟩))
    (fun os started H enc _ => lifted os started H enc)

/-- ████ THE STATEMENT ████ -/
theorem proved : Rows.NumberBackSaid :=
  over
#print axioms proved
end Go.Proofs.Ytjlnfconolndoaa.numberBack
