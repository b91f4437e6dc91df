/- NamesSame: for every input the law returns true, and each argument reads behind the call as it read before. No condition. -/
import Derived.Test.YtklhehodhlmhaaaRows
import Derived.WalkKit
import Derived.ProofKit
import Derived.OpenShut
import Derived.ShutString
import Derived.ChangeOld
import Derived.Below
import Derived.Test.YtklhehodhlmhaaaBelow
import Derived.Test.YtklhehodhlmhaaaNamAwake
namespace Go.Proofs.Ytklhehodhlmhaaa.namesSame
open Go.ChangeShapes Go.WideShapes Go.ChangeAt Go.RowKit
open Go.ChangeMaps (open_string shut_string)
set_option linter.unusedVariables false

theorem own : ownKnob Try.prog.godebug = none := by kernel_rfl
theorem laidOut : laidOutB Try.prog = true := by kernel_rfl

/-! ### the walk: the Go text returns true -/
theorem fold_nl {ys : List Int} : fold ys = [10] ↔ ys = [10] := by
  constructor
  · intro h
    match ys, h with
    | [c], h =>
      have h1 : cap1 c = 10 := by simpa [fold] using h
      unfold cap1 at h1
      split at h1
      · omega
      · rw [h1]
    | [], h => simp [fold] at h
    | _ :: _ :: _, h => simp [fold] at h
  · rintro rfl
    decide
def two (xs : List Int) : List Wd := [⟨xs, 0, false, false⟩, ⟨[10], 0, false, false⟩]
theorem fnd_two (xs ys : List Int) : fnd (two xs) ys = if ys = [10] then 1 else if fold xs = fold ys then 0 else -1 := by
  have e1 : fold [10] = [10] := by decide
  by_cases h : ys = [10]
  · rw [if_pos h, h]
    simp [fnd, two, fndK, hit, e1]
  · have h2 : ¬ fold ys = [10] := fun hh => h (fold_nl.1 hh)
    have h3 : ¬ [10] = fold ys := fun hh => h2 hh.symm
    rw [if_neg h]
    simp [fnd, two, fndK, hit, e1, h3]
theorem nl_ne {ys : List Int} (hy : bytesOk ys) (h : ¬ ys = [10]) : ¬ (strOfNums ys).toList = [10] := fun hh => h (str_inj hy (by unfold bytesOk; decide) (by rw [hh]; decide +kernel))
theorem two_row (W : World) (xs : List Int) : Ws (W.alloc (.cells #[.string (strOfNums xs), .int .i64 0, .bool false, .bool false, .string ⟨#[10]⟩, .int .i64 0, .bool false, .bool false] 31)) (some ⟨W.heap.size, 0, none⟩) 2 2 (two xs) :=
  (ws_made W W.heap.size (Nat.le_refl _) (two xs) 2 rfl (by decide) #[.string (strOfNums xs), .int .i64 0, .bool false, .bool false, .string ⟨#[10]⟩, .int .i64 0, .bool false, .bool false] (by rfl)).sz
set_option maxHeartbeats 1000000 in
theorem walk (a0 : ByteArray) (a1 : ByteArray) (w : World) (w0 : a0.size ≤ maxLen) (w1 : a1.size ≤ maxLen) :
    Calls Try.prog 7 #[.string a0, .string a1] w fun e w' => e = .returned (.bool true) ∧ Below w.heap.size w w' := by
  obtain ⟨xs, hx, rfl⟩ : ∃ xs, bytesOk xs ∧ a0 = strOfNums xs := ⟨bytesOf a0, bytesOf_ok a0, (str_of a0).symm⟩
  obtain ⟨ys, hy, rfl⟩ : ∃ ys, bytesOk ys ∧ a1 = strOfNums ys := ⟨bytesOf a1, bytesOf_ok a1, (str_of a1).symm⟩
  have hs := str_size xs
  have hs2 := str_size ys
  clear w0 w1
  by_cases hl : 60 < xs.length
  · generalize strOfNums xs = s at *
    generalize strOfNums ys = t at *
    go_enter Try.func7, Try.ntmps7
    go_wp2_with (go_at_call 8; (with_reducible refine (awake_any _).mono ?_); rintro e w1 ⟨rfl, hb1⟩)
    go_ret
    exact ⟨rfl, hb1.out⟩
  by_cases hl2 : 60 < ys.length
  · generalize strOfNums xs = s at *
    generalize strOfNums ys = t at *
    go_enter Try.func7, Try.ntmps7
    go_wp2_with (go_at_call 8; (with_reducible refine (awake_any _).mono ?_); rintro e w1 ⟨rfl, hb1⟩)
    go_ret
    exact ⟨rfl, hb1.out⟩
  have hl1 : xs.length ≤ 1000 := by omega
  have hl3 : ys.length ≤ 1000 := by omega
  have b1 : ∀ (s : ByteArray) W, (Instr.build 31 #[(0, .string s)]).run Try.prog W = .ok (.agg #[.string s, .int .i64 0, .bool false, .bool false]) W := fun s W => by kernel_rfl
  have b2 : ∀ (s : ByteArray) (W : World), (Instr.buildSlice 26 2 #[(0, .agg #[.string s, .int .i64 0, .bool false, .bool false]), (1, .agg #[.string ⟨#[10]⟩, .int .i64 0, .bool false, .bool false])]).run Try.prog W =
      .ok (.slice (some ⟨W.heap.size, 0, none⟩) 2 2) (W.alloc (.cells #[.string s, .int .i64 0, .bool false, .bool false, .string ⟨#[10]⟩, .int .i64 0, .bool false, .bool false] 31)) := fun s W => by kernel_rfl
  have hok : ∀ x ∈ two xs, x.ok 1000 := by
    intro x hx'
    simp only [two, List.mem_cons, List.not_mem_nil, or_false] at hx'
    rcases hx' with rfl | rfl
    · exact ⟨hx, hl1⟩
    · exact ⟨by unfold bytesOk; decide, by decide⟩
  have hA := Lib.hid (fun (V : World) => two_row V xs)
  have hD := Lib.hid (fun (W V : World) (h : Hid (Below (W.alloc (.cells #[.string (strOfNums xs), .int .i64 0, .bool false, .bool false, .string ⟨#[10]⟩, .int .i64 0, .bool false, .bool false] 31)).heap.size (W.alloc (.cells #[.string (strOfNums xs), .int .i64 0, .bool false, .bool false, .string ⟨#[10]⟩, .int .i64 0, .bool false, .bool false] 31)) V)) => find_from _ 2 2 (two xs) ys h (Ws.from (hA.out W) h) hok (by omega) hy hl3)
  have hD2 := Lib.hid (fun (W V : World) (h : Hid (Below (W.alloc (.cells #[.string (strOfNums xs), .int .i64 0, .bool false, .bool false, .string ⟨#[10]⟩, .int .i64 0, .bool false, .bool false] 31)).heap.size (W.alloc (.cells #[.string (strOfNums xs), .int .i64 0, .bool false, .bool false, .string ⟨#[10]⟩, .int .i64 0, .bool false, .bool false] 31)) V)) => find_as _ 2 2 (two xs) [10] ⟨#[10]⟩ 1 h (Ws.from (hA.out W) h) hok (by omega) (by unfold bytesOk; decide) (by decide) (by decide +kernel) (by rw [fnd_two, if_pos rfl]))
  have hF := Lib.hid (fun (w0 W : World) (h : Hid (Below w0.heap.size w0 W)) => fold_from xs h hx hl1)
  have hF2 := Lib.hid (fun (w0 W : World) (h : Hid (Below w0.heap.size w0 W)) => fold_from ys h hy hl3)
  have hW : Hid (∃ (v : Int) (p q : Bool), fnd (two xs) ys = v ∧ ((strOfNums (fold xs)).toList == (strOfNums (fold ys)).toList) = p ∧ ((strOfNums ys).toList != [10]) = q ∧ ((v = 1 ∧ q = false) ∨ (v = 0 ∧ p = true ∧ q = true) ∨ (v = -1 ∧ p = false ∧ q = true))) := by
    apply Lib.hid
    refine ⟨_, _, _, rfl, rfl, rfl, ?_⟩
    rw [str_beq (fold_ok hx) (fold_ok hy), fnd_two]
    by_cases h : ys = [10]
    · left
      rw [if_pos h, h]
      exact ⟨rfl, by decide +kernel⟩
    · right
      have hne : ((strOfNums ys).toList != [10]) = true := by simpa using nl_ne hy h
      rw [if_neg h, hne]
      by_cases h2 : fold xs = fold ys
      · left
        rw [if_pos h2]
        exact ⟨rfl, decide_eq_true h2, rfl⟩
      · right
        rw [if_neg h2]
        exact ⟨rfl, decide_eq_false h2, rfl⟩
  obtain ⟨v, p, q, hv, hp, hq, hW⟩ := hW.out
  have hq2 : ((strOfNums ys).toList == [10]) = !q := by rw [← hq]; simp [bne]
  rw [hv] at hD
  have hst : Hid (∀ W : World, Below W.heap.size W (W.alloc (.cells #[.string (strOfNums xs), .int .i64 0, .bool false, .bool false, .string ⟨#[10]⟩, .int .i64 0, .bool false, .bool false] 31))) := Lib.hid fun W => (Below.refl _ _).alloc (Nat.le_refl _) _
  clear hok hA hv
  generalize strOfNums (fold xs) = z1 at *
  generalize strOfNums (fold ys) = z2 at *
  generalize strOfNums xs = s at *
  generalize strOfNums ys = t at *
  cases p
  all_goals rcases hW with ⟨rfl, rfl⟩ | ⟨rfl, h2, rfl⟩ | ⟨rfl, h2, rfl⟩
  all_goals first | (exact absurd h2 (by decide)) | skip
  all_goals
    go_enter Try.func7, Try.ntmps7
    go_wp2_with (first | (go_at_call 8; (with_reducible refine (awake_any _).mono ?_); rintro e w1 ⟨rfl, hb1⟩; have h0 := Lib.hid (Below.refl (w1.alloc (.cells #[.string s, .int .i64 0, .bool false, .bool false, .string ⟨#[10]⟩, .int .i64 0, .bool false, .bool false] 31)).heap.size (w1.alloc (.cells #[.string s, .int .i64 0, .bool false, .bool false, .string ⟨#[10]⟩, .int .i64 0, .bool false, .bool false] 31)))) | (go_at_call 14; (with_reducible refine (hD.out _ _ (by assumption)).mono ?_); rintro e w2 ⟨rfl, hb2⟩) | (go_at_call 9; (with_reducible refine (hF.out _ _ hb2).mono ?_); rintro e w3 ⟨rfl, hb3⟩) | (go_at_call 9; (with_reducible refine (hF2.out _ _ hb3).mono ?_); rintro e w4 ⟨rfl, hb4⟩) | (go_at_call 14; (with_reducible refine (hD2.out _ _ hb4).mono ?_); rintro e w5 ⟨rfl, hb5⟩))
    go_ret
    exact ⟨rfl, hb1.out.trans (((hst.out w1).trans (hb5.out.mono (hst.out w1).size)).mono hb1.out.size)⟩

/-! ### the row's step -/
set_option maxRecDepth 100000 in
theorem lifted (os : Os) (started : os.Started) (H : Type) (enc : TypeId × Value → H) :
    ReturnsInHanded {} Try.checked os 7 .any (Rows.namesSameSpec.pre6 enc Try.prog Try.f7 Rows.namesSameRow.domain false) (Rows.namesSameSpec.post enc Try.prog Try.f7 false true false false) := by
  refine returnsInHanded_of_change (C := Try.checked) own started (by kernel_rfl) Try.func7
    (ChangeSpec.witness6 (enc := enc) (C := Try.checked) false ⟨#[], #[.string ByteArray.empty, .string ByteArray.empty], []⟩ 8 (by kernel_rfl) (by kernel_rfl) (by kernel_rfl) (by kernel_rfl)) ?_
  intro W base args ds gs before hval0 hW hcnd _
  have hval : ∀ (j : Nat) t v, Try.f7.params[j]? = some t → args[j]? = some v → Value.okWide Try.prog W .any base t v := hval0
  have hW' := hW
  obtain ⟨p, q, hA0, hV, rfl, hfz, hnd⟩ := hW
  have hA : DataW.TrodAll enc Try.prog W 0 (fun _ => true) true Try.f7.params.toList args.toList ds p := hA0
  rw [Try.params7] at hA hval
  obtain ⟨v0, vs0, d0, ds0, p0, q0, hargs, rfl, rfl, h0, r0⟩ := trodAll_cons hA
  obtain ⟨v1, vs1, d1, ds1, p1, q1, rfl, rfl, rfl, h1, r1⟩ := trodAll_cons r0
  obtain ⟨rfl, rfl, rfl⟩ := trodAll_nil r1
  obtain rfl : args = #[v0, v1] := by cases args; simp_all
  obtain ⟨rfl, rfl⟩ := trodVars_none hV
  obtain ⟨a0, rfl, rfl, rfl, w0⟩ := open_string Try.underlying9 (hval 0 9 v0 rfl rfl) h0
  obtain ⟨a1, rfl, rfl, rfl, w1⟩ := open_string Try.underlying9 (hval 1 9 v1 rfl rfl) h1
  clear hA0 hval0
  refine (walk a0 a1 W w0 w1).mono fun e W' ⟨he, bel⟩ => ?_
  subst he
  exact ⟨_, rfl, _, _, _, [], _, [], hW', trodAll_mk1 (shut_bool Try.underlying4 _), (trodAll_cons_mk (shut_string Try.underlying9 w0) (trodAll_cons_mk (shut_string Try.underlying9 w1) trodAll_mk0)), rfl, bel.frame _, fun h => by cases h⟩

theorem over : Rows.namesSameRow.holds Try.pinned (OpenSpec.ofChange Rows.namesSameSpec) :=
  OpenClaim.holds_of_wide 7 Try.f7 rfl rfl rfl rfl rfl rfl rfl ⟨rfl, rfl, rfl, rfl, rfl⟩ rfl rfl rfl rfl rfl (by kernel_rfl) Try.func7 (by kernel_rfl)
    (of_decide_eq_true (by kernel_rfl)) (by unfold Func.isWrapper; first | (rw [if_pos (by decide +kernel)]; kernel_rfl) | (rw [if_neg (by decide +kernel)]; exact ⟨rfl, rfl⟩))
    (fun os started H enc _ => lifted os started H enc)

/-- the statement -/
theorem proved : Rows.NamesSameSaid := over
#print axioms proved
end Go.Proofs.Ytklhehodhlmhaaa.namesSame
