/- OpsBack: for every input the law returns true, and each argument reads behind the call as it read before. Condition: the listed package-level variables (nostos/ops.words) start as the program's own text lays them, and the card ties that to the text. -/
import Derived.Test.YtbianodiadfjeaaDoorRows
import Derived.WalkKit
import Derived.ProofKit
import Derived.OpenShut
import Derived.ShutString
import Derived.ChangeOld
import Derived.Below
import Derived.Test.YtbianodiadfjeaaDoorTie
import Derived.Test.YtbianodiadfjeaaDoorCards
import Derived.Test.YtbianodiadfjeaaDoorBelow
import Derived.Test.YtbianodiadfjeaaDoorOpsAwake
import Derived.SevenTiedAt
import Derived.LaidMore
import Derived.Stop.Joined
namespace Go.Proofs.YtbianodiadfjeaaDoor.opsBack
open Go.ChangeShapes Go.WideShapes Go.ChangeAt Go.RowKit
open Go.ChangeMaps (open_string shut_string)
set_option linter.unusedVariables false

theorem own : ownKnob Tryd.prog.godebug = none := by kernel_rfl
theorem laidOut : laidOutB Tryd.prog = true := by kernel_rfl

/-! ### the walk: the Go text returns true -/
set_option maxHeartbeats 2000000 in
theorem walk (a0 : Int) (a1 : ByteArray) (w : World) (hL : Laid w) (w0 : (Lit.int .i64 a0).wf = true) (w1 : a1.size ≤ maxLen) :
    Calls Tryd.prog 5 #[.int .i64 a0, .string a1] w fun e w' => e = .returned (.bool true) ∧ Below w.heap.size w w' := by
  obtain ⟨xs, hx, rfl⟩ : ∃ xs, bytesOk xs ∧ a1 = strOfNums xs := ⟨bytesOf a1, bytesOf_ok a1, (str_of a1).symm⟩
  have hs := str_size xs
  have hA := awake_any w hL
  by_cases hl : 60 < xs.length
  · clear hL
    generalize strOfNums xs = s at *
    go_enter Tryd.func5, Tryd.ntmps5
    go_wp2_with (go_at_call 8; (with_reducible refine hA.mono ?_); rintro e w1 ⟨rfl, hb1⟩)
    go_ret
    exact ⟨rfl, hb1.out⟩
  have hl1 : xs.length ≤ 1000 := by omega
  have hb : I64 a0 := bd_i64 w0
  have hkb : I64 (fnO (fold xs)) := by have := fnO_bd (fold xs); unfold I64; omega
  have hF := Lib.hid (fun (V : World) (h : Hid (Below w.heap.size w V)) => find_from xs hL h hx hl1)
  have rO := Lib.hid (fun (V : World) (h : Hid (Below w.heap.size w V)) => rfold_from xs h hx hl1)
  have hG := Lib.hid (fun (V : World) (h : Hid (Below w.heap.size w V)) => find_from (nm a0) hL h (nm_ok a0) (by have := nm_len a0; omega))
  have hN := Lib.hid (fun (V : World) (h : Hid (Below w.heap.size w V)) => name_from a0 hL h hb)
  have hI := Lib.hid (fun (V : World) (h : Hid (Below w.heap.size w V)) => inn_from a0 hL h hb)
  have hS := Lib.hid (fun (V : World) => is_any a0 V hb)
  have hN2 := Lib.hid (fun (V : World) (h : Hid (Below w.heap.size w V)) => name_from (fnO (fold xs)) hL h hkb)
  have hI2 := Lib.hid (fun (V : World) (h : Hid (Below w.heap.size w V)) => inn_from (fnO (fold xs)) hL h hkb)
  have hS2 := Lib.hid (fun (V : World) => is_any (fnO (fold xs)) V hkb)
  rw [nm_fold] at hG
  obtain ⟨v, hv⟩ : ∃ v, v = fnO (nm a0) := ⟨_, rfl⟩
  have hv2 := hv.trans (fnO_nm a0)
  rw [← hv] at hG
  -- the word of the number: it is found, or it is not there, or inner
  have h1 : (isw a0 = true ∧ inn a0 = false ∧ (v == a0) = true ∧ True) ∨ (isw a0 = true ∧ inn a0 = true ∧ (v == a0) = false ∧ (v == 0) = true) ∨ (isw a0 = false ∧ (v == a0) = true ∧ (v == 0) = true) ∨ (isw a0 = false ∧ (v == a0) = false ∧ (v == 0) = true) := by
    cases hi : isw a0
    · rw [hi] at hv2
      have e0 : v = 0 := hv2
      by_cases h : a0 = 0
      · exact .inr (.inr (.inl ⟨rfl, by simp [e0, h], by simp [e0]⟩))
      · exact .inr (.inr (.inr ⟨rfl, by simp [e0]; omega, by simp [e0]⟩))
    · rw [hi] at hv2
      cases hn : inn a0
      · rw [hn] at hv2
        have e0 : v = a0 := hv2
        exact .inl ⟨rfl, rfl, by simp [e0], trivial⟩
      · rw [hn] at hv2
        have e0 : v = 0 := hv2
        have hz : ¬ a0 = 0 := by
          intro h
          rw [h] at hi
          revert hi
          decide
        exact .inr (.inl ⟨rfl, rfl, by simp [e0]; omega, by simp [e0]⟩)
  -- the word of the name: none, or one that has it
  have h2 : ((fnO (fold xs) == 0) = true ∧ True) ∨ ((fnO (fold xs) == 0) = false ∧ isw (fnO (fold xs)) = true ∧ inn (fnO (fold xs)) = false ∧ strOfNums (nm (fnO (fold xs))) = strOfNums (fold xs)) := by
    rcases fnO_cases (fold xs) with h | ⟨g1, g2, g3, g4⟩
    · exact .inl ⟨by simp [h], trivial⟩
    · exact .inr ⟨by simp; omega, by simp [isw, g1, g2], g3, by rw [g4]⟩
  clear hv hv2 hL hx hl1 hb hkb
  generalize strOfNums (nm a0) = z at *
  generalize fnO (fold xs) = k at *
  generalize strOfNums (nm k) = y at *
  generalize strOfNums (fold xs) = g at *
  generalize strOfNums xs = s at *
  generalize xs.length = n at *
  generalize isw a0 = i1 at *
  generalize inn a0 = n1 at *
  generalize isw k = i2 at *
  generalize inn k = n2 at *
  rcases h1 with ⟨rfl, rfl, q1, q2⟩ | ⟨rfl, rfl, q1, q2⟩ | ⟨rfl, q1, q2⟩ | ⟨rfl, q1, q2⟩ <;> rcases h2 with ⟨q3, q4⟩ | ⟨q3, rfl, rfl, rfl⟩
  all_goals
    go_enter Tryd.func5, Tryd.ntmps5
    go_wp2_with (first | (go_at_call 8; (with_reducible refine hA.mono ?_); rintro e w1 ⟨rfl, hb1⟩) | (go_at_call 21; (with_reducible refine (hF.out _ (by assumption)).mono ?_); rintro e w2 ⟨rfl, hb2⟩) | (go_at_call 21; (with_reducible refine (hG.out _ (by assumption)).mono ?_); rintro e w3 ⟨rfl, hb3⟩) | (go_at_call 13; (with_reducible refine (hI.out _ (by assumption)).mono ?_); rintro e w4 ⟨rfl, hb4⟩) | (go_at_call 13; (with_reducible refine (hI2.out _ (by assumption)).mono ?_); rintro e w5 ⟨rfl, hb5⟩) | (go_at_call 11; (with_reducible refine (hS.out _).mono ?_); rintro e w' ⟨rfl, rfl⟩) | (go_at_call 11; (with_reducible refine (hS2.out _).mono ?_); rintro e w' ⟨rfl, rfl⟩) | (go_at_call 9; (with_reducible refine (hN.out _ (by assumption)).mono ?_); rintro e w' ⟨rfl, rfl⟩) | (go_at_call 9; (with_reducible refine (hN2.out _ (by assumption)).mono ?_); rintro e w' ⟨rfl, rfl⟩) | (go_at_call 23; (with_reducible refine (rO.out _ (by assumption)).mono ?_); rintro e w6 ⟨rfl, hb6⟩))
    go_ret
    exact ⟨rfl, Hid.out (by assumption)⟩

/-! ### the door's own heap meets the condition -/
theorem door_met (os : Os) (args : Array Value) : laidMetH Tryd.prog [("nostos/ops.words", Rows.laid_nostos_ops_words)] ((World.doorLaid Tryd.prog 14 os).forCall (fun _ _ => 0) ⟨#[], args, []⟩).memory :=
  laidMetH_of_parts3 (fuel := 8) (laidMet_of_run' 8 (by kernel_rfl) (by kernel_rfl)) (by kernel_rfl) (by kernel_rfl)

/-! ### the row's step -/
set_option maxRecDepth 100000 in
theorem lifted (os : Os) (started : os.Started) (H : Type) (enc : TypeId × Value → H) :
    ReturnsInHanded {} Tryd.checked os 5 .any (fun w args => (Rows.opsBackSpec.pre enc Tryd.prog Tryd.f5 [] false w args ∧ laidMetH Tryd.prog [("nostos/ops.words", Rows.laid_nostos_ops_words)] w) ∧ sizedMet enc Tryd.prog Tryd.f5 (OpenSpec.ofChange Rows.opsBackSpec) false w args)
      (Rows.opsBackSpec.post enc Tryd.prog Tryd.f5 false true false false) := by
  refine returnsInHanded_of_change_and (C := Tryd.checked) (X := fun w _ => laidMetH Tryd.prog [("nostos/ops.words", Rows.laid_nostos_ops_words)] w) (fun _ _ _ hh h => h.of_heap hh) own started (by kernel_rfl) Tryd.func5
    (ChangeSpec.witness_shaped (enc := enc) (C := Tryd.checked) (os := os) (X := fun w _ => laidMetH Tryd.prog [("nostos/ops.words", Rows.laid_nostos_ops_words)] w) false (World.doorLaid Tryd.prog 14 os) #[.int .i64 0, .string ByteArray.empty] 8 rfl (World.shaped_of_RefB (by kernel_rfl) (by kernel_rfl)) (by kernel_rfl) (by kernel_rfl) (by kernel_rfl) (door_met os _)) ?_
  intro W base args ds gs before hval0 hW _ _ hL0 _
  have hval : ∀ (j : Nat) t v, Tryd.f5.params[j]? = some t → args[j]? = some v → Value.okWide Tryd.prog W .any base t v := hval0
  have hW' := hW
  obtain ⟨p, q, hA0, hV, rfl, hfz, hnd⟩ := hW
  have hA : DataW.TrodAll enc Tryd.prog W 0 (fun _ => true) true Tryd.f5.params.toList args.toList ds p := hA0
  rw [Tryd.params5] at hA hval
  obtain ⟨v0, vs0, d0, ds0, p0, q0, hargs, rfl, rfl, h0, r0⟩ := trodAll_cons hA
  obtain ⟨v1, vs1, d1, ds1, p1, q1, rfl, rfl, rfl, h1, r1⟩ := trodAll_cons r0
  obtain ⟨rfl, rfl, rfl⟩ := trodAll_nil r1
  obtain rfl : args = #[v0, v1] := by cases args; simp_all
  obtain ⟨rfl, rfl⟩ := trodVars_none hV
  obtain ⟨a0, rfl, rfl, rfl, w0⟩ := open_int Tryd.underlying3 (hval 0 3 v0 rfl rfl) h0
  obtain ⟨a1, rfl, rfl, rfl, w1⟩ := open_string Tryd.underlying9 (hval 1 9 v1 rfl rfl) h1
  clear hA0 hval0
  refine (walk a0 a1 W (laid_of hL0) w0 w1).mono fun e W' ⟨he, bel⟩ => ?_
  subst he
  exact ⟨_, rfl, _, _, _, [], _, [], hW', trodAll_mk1 (shut_bool Tryd.underlying4 _), (trodAll_cons_mk (shut_int Tryd.underlying3 w0) (trodAll_cons_mk (shut_string Tryd.underlying9 w1) trodAll_mk0)), rfl, bel.frame _, fun h => by cases h⟩

theorem over : Rows.opsBackRow.holds Tryd.pinned (OpenSpec.ofChange Rows.opsBackSpec) :=
  OpenClaim.holds_of_wide 5 Tryd.f5 rfl rfl rfl rfl rfl rfl rfl ⟨rfl, rfl, rfl, rfl, rfl⟩ rfl rfl rfl rfl rfl (by kernel_rfl) Tryd.func5 (by kernel_rfl)
    (of_decide_eq_true (by kernel_rfl)) (by unfold Func.isWrapper; first | (rw [if_pos (by decide +kernel)]; kernel_rfl) | (rw [if_neg (by decide +kernel)]; exact ⟨rfl, rfl⟩))
    (fun os started H enc _ => lifted os started H enc)

/-- the statement -/
theorem proved : Rows.OpsBackCardSaid := 
  Claim7.holds_tied_plain_at .later [] [.data] true (true, "a0e99d4f33c815118189c26d27e129fd32c0e593ef713694d0fb5a47ed181edf") false
    over (fun _ h => by cases h) (by kernel_rfl) (fun _ h => by cases h) opsBack_row_tie rfl ⟨rfl, rfl⟩ (by kernel_rfl) rfl
    (fun f fn hf hfn => by
      obtain rfl : f = 5 := Option.some.inj ((show Tryd.prog.funcNamed "nostos/nostoslaw08.OpsBack" = some 5 by kernel_rfl).symm.trans hf) |>.symm
      obtain rfl : fn = Tryd.f5 := (Option.some.inj (Tryd.func5.symm.trans hfn)).symm
      exact ⟨by kernel_rfl, fun j t ht => by
        rw [Tryd.params5] at ht
        have hm : t ∈ [3, 9] := by simpa using Array.mem_of_getElem? ht
        have hall : ([3, 9].all fun u => !Tryd.prog.wantsStandIn u) = true := by kernel_rfl
        exact (show Tryd.prog.wantsStandIn t = false by simpa using List.all_eq_true.1 hall t hm)⟩)
    (by kernel_rfl)
#print axioms proved
end Go.Proofs.YtbianodiadfjeaaDoor.opsBack
