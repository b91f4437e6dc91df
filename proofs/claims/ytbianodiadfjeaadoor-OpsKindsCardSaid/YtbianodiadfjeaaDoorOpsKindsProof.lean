/- OpsKinds: for every input the law returns true, and each argument reads behind the call as it read before. Condition: the listed package-level variables (nostos/ops.words) start as the program's own text lays them, and the card ties that to the text. -/
import Derived.Test.YtbianodiadfjeaaDoorRows
import Derived.WalkKit
import Derived.ProofKit
import Derived.OpenShut
import Derived.ShutString
import Derived.ChangeOld
import Derived.Below
import Derived.Test.YtbianodiadfjeaaDoorTie
import Derived.Test.YtbianodiadfjeaaDoorCards
import Derived.Test.YtbianodiadfjeaaDoorBelow
import Derived.Test.YtbianodiadfjeaaDoorOpsAwake
import Derived.SevenTiedAt
import Derived.LaidMore
import Derived.Stop.Joined
namespace Go.Proofs.YtbianodiadfjeaaDoor.opsKinds
open Go.ChangeShapes Go.WideShapes Go.ChangeAt Go.RowKit
open Go.ChangeMaps (open_string shut_string)
set_option linter.unusedVariables false

theorem own : ownKnob Tryd.prog.godebug = none := by kernel_rfl
theorem laidOut : laidOutB Tryd.prog = true := by kernel_rfl

/-! ### the walk: the Go text returns true -/
def kindsB (i n t o d : Bool) : Bool := (!(t || o || d || n) || i) && (!d || n) && (!n || (!t && !o))
theorem kinds_in : ∀ m : Nat, m < 137 → kindsB (isw ((m : Int) + 1)) (inn ((m : Int) + 1)) (now ((m : Int) + 1)) (onl ((m : Int) + 1)) (wid ((m : Int) + 1)) = true := by decide +kernel
theorem kinds_ok (op : Int) : kindsB (isw op) (inn op) (now op) (onl op) (wid op) = true := by
  by_cases h : 1 ≤ op ∧ op ≤ 137
  · obtain ⟨m, hm, rfl⟩ := in_at h
    exact kinds_in m hm
  · rw [← innK_is, ← nowK_is, ← onlK_is, ← widK_is, nm_out h, innK_nil, nowK_nil, onlK_nil, widK_nil]
    cases isw op <;> rfl
theorem named (op : Int) : ((strOfNums (nm op)).toList == []) = !isw op := by
  have h0 : bytesOk [] := fun x hx => by cases hx
  have h := str_beq (nm_ok op) h0
  have e : (strOfNums []).toList = [] := by rw [str_list]; rfl
  rw [e] at h
  rw [h]
  by_cases hb : 1 ≤ op ∧ op ≤ 137
  · have : isw op = true := by simp [isw, hb.1, hb.2]
    rw [this, decide_eq_false (fun h => (nm_nil op).1 h hb)]
    rfl
  · have : isw op = false := by simp [isw]; omega
    rw [this, decide_eq_true ((nm_nil op).2 hb)]
    rfl
set_option maxHeartbeats 2000000 in
theorem walk (a0 : Int) (w : World) (hL : Laid w) (w0 : (Lit.int .i64 a0).wf = true) :
    Calls Tryd.prog 6 #[.int .i64 a0] w fun e w' => e = .returned (.bool true) ∧ Below w.heap.size w w' := by
  have hb : I64 a0 := bd_i64 w0
  have hA := awake_any w hL
  have hN := Lib.hid (fun (V : World) (h : Hid (Below w.heap.size w V)) => name_from a0 hL h hb)
  have hI := Lib.hid (fun (V : World) (h : Hid (Below w.heap.size w V)) => inn_from a0 hL h hb)
  have hW := Lib.hid (fun (V : World) (h : Hid (Below w.heap.size w V)) => now_from a0 hL h hb)
  have hO := Lib.hid (fun (V : World) (h : Hid (Below w.heap.size w V)) => onl_from a0 hL h hb)
  have hD := Lib.hid (fun (V : World) (h : Hid (Below w.heap.size w V)) => wid_from a0 hL h hb)
  have hS := Lib.hid (fun (V : World) => is_any a0 V hb)
  have hk := kinds_ok a0
  have hnm := named a0
  clear hL
  generalize strOfNums (nm a0) = z at *
  generalize inn a0 = b1 at *
  generalize now a0 = b2 at *
  generalize onl a0 = b3 at *
  generalize wid a0 = b4 at *
  generalize isw a0 = b5 at *
  cases b1 <;> cases b2 <;> cases b3 <;> cases b4 <;> cases b5 <;> first | (exact absurd hk (by decide)) | skip
  all_goals
    clear hk
    simp only [Bool.not_true, Bool.not_false] at hnm
    go_enter Tryd.func6, Tryd.ntmps6
    go_wp2_with (first | (go_at_call 8; (with_reducible refine hA.mono ?_); rintro e w1 ⟨rfl, hb1⟩) | (go_at_call 15; (with_reducible refine (hW.out _ (by assumption)).mono ?_); rintro e w2 ⟨rfl, hb2⟩) | (go_at_call 17; (with_reducible refine (hO.out _ (by assumption)).mono ?_); rintro e w3 ⟨rfl, hb3⟩) | (go_at_call 19; (with_reducible refine (hD.out _ (by assumption)).mono ?_); rintro e w4 ⟨rfl, hb4⟩) | (go_at_call 13; (with_reducible refine (hI.out _ (by assumption)).mono ?_); rintro e w5 ⟨rfl, hb5⟩) | (go_at_call 11; (with_reducible refine (hS.out _).mono ?_); rintro e w' ⟨rfl, rfl⟩) | (go_at_call 9; (with_reducible refine (hN.out _ (by assumption)).mono ?_); rintro e w' ⟨rfl, rfl⟩))
    go_ret
    exact ⟨rfl, Hid.out (by assumption)⟩

/-! ### the door's own heap meets the condition -/
theorem door_met (os : Os) (args : Array Value) : laidMetH Tryd.prog [("nostos/ops.words", Rows.laid_nostos_ops_words)] ((World.doorLaid Tryd.prog 14 os).forCall (fun _ _ => 0) ⟨#[], args, []⟩).memory :=
  laidMetH_of_parts3 (fuel := 8) (laidMet_of_run' 8 (by kernel_rfl) (by kernel_rfl)) (by kernel_rfl) (by kernel_rfl)

/-! ### the row's step -/
set_option maxRecDepth 100000 in
theorem lifted (os : Os) (started : os.Started) (H : Type) (enc : TypeId × Value → H) :
    ReturnsInHanded {} Tryd.checked os 6 .any (fun w args => (Rows.opsKindsSpec.pre enc Tryd.prog Tryd.f6 [] false w args ∧ laidMetH Tryd.prog [("nostos/ops.words", Rows.laid_nostos_ops_words)] w) ∧ sizedMet enc Tryd.prog Tryd.f6 (OpenSpec.ofChange Rows.opsKindsSpec) false w args)
      (Rows.opsKindsSpec.post enc Tryd.prog Tryd.f6 false true false false) := by
  refine returnsInHanded_of_change_and (C := Tryd.checked) (X := fun w _ => laidMetH Tryd.prog [("nostos/ops.words", Rows.laid_nostos_ops_words)] w) (fun _ _ _ hh h => h.of_heap hh) own started (by kernel_rfl) Tryd.func6
    (ChangeSpec.witness_shaped (enc := enc) (C := Tryd.checked) (os := os) (X := fun w _ => laidMetH Tryd.prog [("nostos/ops.words", Rows.laid_nostos_ops_words)] w) false (World.doorLaid Tryd.prog 14 os) #[.int .i64 0] 8 rfl (World.shaped_of_RefB (by kernel_rfl) (by kernel_rfl)) (by kernel_rfl) (by kernel_rfl) (by kernel_rfl) (door_met os _)) ?_
  intro W base args ds gs before hval0 hW _ _ hL0 _
  have hval : ∀ (j : Nat) t v, Tryd.f6.params[j]? = some t → args[j]? = some v → Value.okWide Tryd.prog W .any base t v := hval0
  have hW' := hW
  obtain ⟨p, q, hA0, hV, rfl, hfz, hnd⟩ := hW
  have hA : DataW.TrodAll enc Tryd.prog W 0 (fun _ => true) true Tryd.f6.params.toList args.toList ds p := hA0
  rw [Tryd.params6] at hA hval
  obtain ⟨v0, vs0, d0, ds0, p0, q0, hargs, rfl, rfl, h0, r0⟩ := trodAll_cons hA
  obtain ⟨rfl, rfl, rfl⟩ := trodAll_nil r0
  obtain rfl : args = #[v0] := by cases args; simp_all
  obtain ⟨rfl, rfl⟩ := trodVars_none hV
  obtain ⟨a0, rfl, rfl, rfl, w0⟩ := open_int Tryd.underlying3 (hval 0 3 v0 rfl rfl) h0
  clear hA0 hval0
  refine (walk a0 W (laid_of hL0) w0).mono fun e W' ⟨he, bel⟩ => ?_
  subst he
  exact ⟨_, rfl, _, _, _, [], _, [], hW', trodAll_mk1 (shut_bool Tryd.underlying4 _), (trodAll_cons_mk (shut_int Tryd.underlying3 w0) trodAll_mk0), rfl, bel.frame _, fun h => by cases h⟩

theorem over : Rows.opsKindsRow.holds Tryd.pinned (OpenSpec.ofChange Rows.opsKindsSpec) :=
  OpenClaim.holds_of_wide 6 Tryd.f6 rfl rfl rfl rfl rfl rfl rfl ⟨rfl, rfl, rfl, rfl, rfl⟩ rfl rfl rfl rfl rfl (by kernel_rfl) Tryd.func6 (by kernel_rfl)
    (of_decide_eq_true (by kernel_rfl)) (by unfold Func.isWrapper; first | (rw [if_pos (by decide +kernel)]; kernel_rfl) | (rw [if_neg (by decide +kernel)]; exact ⟨rfl, rfl⟩))
    (fun os started H enc _ => lifted os started H enc)

/-- the statement -/
theorem proved : Rows.OpsKindsCardSaid := 
  Claim7.holds_tied_plain_at .later [] [.data] true (true, "a0e99d4f33c815118189c26d27e129fd32c0e593ef713694d0fb5a47ed181edf") false
    over (fun _ h => by cases h) (by kernel_rfl) (fun _ h => by cases h) opsKinds_row_tie rfl ⟨rfl, rfl⟩ (by kernel_rfl) rfl
    (fun f fn hf hfn => by
      obtain rfl : f = 6 := Option.some.inj ((show Tryd.prog.funcNamed "nostos/nostoslaw08.OpsKinds" = some 6 by kernel_rfl).symm.trans hf) |>.symm
      obtain rfl : fn = Tryd.f6 := (Option.some.inj (Tryd.func6.symm.trans hfn)).symm
      exact ⟨by kernel_rfl, fun j t ht => by
        rw [Tryd.params6] at ht
        have hm : t ∈ [3] := by simpa using Array.mem_of_getElem? ht
        have hall : ([3].all fun u => !Tryd.prog.wantsStandIn u) = true := by kernel_rfl
        exact (show Tryd.prog.wantsStandIn t = false by simpa using List.all_eq_true.1 hall t hm)⟩)
    (by kernel_rfl)
#print axioms proved
end Go.Proofs.YtbianodiadfjeaaDoor.opsKinds
