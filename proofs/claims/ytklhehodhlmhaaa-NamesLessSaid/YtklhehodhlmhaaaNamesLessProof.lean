/- NamesLess: for every input the law returns true, and each argument reads behind the call as it read before. No condition. -/
import Derived.Test.YtklhehodhlmhaaaRows
import Derived.WalkKit
import Derived.ProofKit
import Derived.OpenShut
import Derived.ShutString
import Derived.ChangeOld
import Derived.Below
import Derived.Test.YtklhehodhlmhaaaBelow
import Derived.Test.YtklhehodhlmhaaaNamAwake
import Derived.Test.YtklhehodhlmhaaaNamOpen
namespace Go.Proofs.Ytklhehodhlmhaaa.namesLess
open Go.ChangeShapes Go.WideShapes Go.ChangeAt Go.RowKit
open Go.ChangeMaps (open_string shut_string)
set_option linter.unusedVariables false

theorem own : ownKnob Try.prog.godebug = none := by kernel_rfl
theorem laidOut : laidOutB Try.prog = true := by kernel_rfl

/-! ### the walk: the Go text returns true -/
set_option maxHeartbeats 1000000 in
theorem walk (a0 : Option Addr) (len0 cap0 : Nat) (z0 : List Wd) (a1 : ByteArray) (w : World) (w0 : WsIn w a0 len0 cap0 z0) (w1 : a1.size ≤ maxLen) :
    Calls Try.prog 6 #[.slice a0 len0 cap0, .string a1] w fun e w' => e = .returned (.bool true) ∧ Below w.heap.size w w' := by
  obtain ⟨xs, hx, rfl⟩ : ∃ xs, bytesOk xs ∧ a1 = strOfNums xs := ⟨bytesOf a1, bytesOf_ok a1, (str_of a1).symm⟩
  obtain ⟨hS, hC⟩ := w0
  have hs := str_size xs
  have hb := Sz.bd hS
  have hFew := Lib.hid (fun (W : World) (h : Hid (Below w.heap.size w W)) => few_any a0 len0 cap0 z0 W (hS.from h))
  clear w1
  cases hf : fewB z0 with
  | false =>
    rw [hf] at hFew
    clear hf hS hC
    generalize strOfNums xs = s at *
    go_enter Try.func6, Try.ntmps6
    go_wp2_with (first | (go_at_call 8; (with_reducible refine (awake_any _).mono ?_); rintro e w1 ⟨rfl, hb1⟩) | (go_at_call 13; (with_reducible refine (hFew.out _ (by assumption)).mono ?_); rintro e w2 ⟨rfl, rfl⟩))
    go_ret
    exact ⟨rfl, hb1.out⟩
  | true =>
    rw [hf] at hFew
    obtain ⟨hn, hle⟩ := fewB_yes hf
    have hlen := hS.len
    rw [hlen] at hn
    have hok : ∀ x ∈ z0, x.ok 1000 := fun x hx => ⟨(hC x hx).1, by have := hle x hx; omega⟩
    clear hf
    by_cases hl : 60 < xs.length
    · clear hS hC hok hle
      generalize strOfNums xs = s at *
      go_enter Try.func6, Try.ntmps6
      go_wp2_with (first | (go_at_call 8; (with_reducible refine (awake_any _).mono ?_); rintro e w1 ⟨rfl, hb1⟩) | (go_at_call 13; (with_reducible refine (hFew.out _ (by assumption)).mono ?_); rintro e w2 ⟨rfl, rfl⟩))
      go_ret
      exact ⟨rfl, hb1.out⟩
    have hl1 : xs.length ≤ 1000 := by omega
    have hD := Lib.hid (fun (W : World) (h : Hid (Below w.heap.size w W)) => find_from a0 len0 cap0 z0 xs h (hS.from h) hok (by omega) hx hl1)
    have hbd := fnd_bd z0 xs
    rw [hlen] at hbd
    by_cases hneg : fnd z0 xs < 0
    · have hv : fnd z0 xs = -1 := by omega
      rw [hv] at hD
      generalize strOfNums xs = s at *
      clear hS hC hok hle hx hv hbd hneg
      go_enter Try.func6, Try.ntmps6
      go_wp2_with (first | (go_at_call 8; (with_reducible refine (awake_any _).mono ?_); rintro e w1 ⟨rfl, hb1⟩) | (go_at_call 13; (with_reducible refine (hFew.out _ (by assumption)).mono ?_); rintro e w2 ⟨rfl, rfl⟩) | (go_at_call 14; (with_reducible refine (hD.out _ (by assumption)).mono ?_); rintro e w3 ⟨rfl, hb3⟩))
      go_ret
      exact ⟨rfl, hb3.out⟩
    obtain ⟨i, hi⟩ : ∃ i : Nat, fnd z0 xs = (i : Int) := Int.eq_ofNat_of_zero_le (by omega)
    obtain ⟨q1, q2, q3, q4⟩ := fnd_less hi
    obtain ⟨q5, q6⟩ := hit_parts q2
    rw [hi] at hD
    obtain ⟨b1, r1, S1⟩ := Sz.cutTo (P := Try.prog) hS 26 31 Try.underlying26 wdsize (i + 1) (by omega)
    obtain ⟨b2, r2, S2⟩ := Sz.cutTo (P := Try.prog) hS 26 31 Try.underlying26 wdsize i (by omega)
    rw [wcells_take] at S1 S2
    have hD1 := Lib.hid (fun (W : World) (h : Hid (Below w.heap.size w W)) => find_from b1 (i + 1) cap0 (z0.take (i + 1)) xs h (Ws.from S1 h) (fun x hx => hok x (List.mem_of_mem_take hx)) (by omega) hx hl1)
    have hD2 := Lib.hid (fun (W : World) (h : Hid (Below w.heap.size w W)) => find_from b2 i cap0 (z0.take i) xs h (Ws.from S2 h) (fun x hx => hok x (List.mem_of_mem_take hx)) (by omega) hx hl1)
    rw [q3] at hD1
    have hF := Lib.hid (fun (W : World) (h : Hid (Below w.heap.size w W)) => fold_from xs h hx hl1)
    have hokx : (z0.getD i default).ok 1000 := hok _ (by simp [List.getD, q1])
    have hF2 := Lib.hid (fun (W : World) (h : Hid (Below w.heap.size w W)) => fold_from (z0.getD i default).nm h hokx.1 hokx.2)
    rw [q6] at hF2
    have hAt := Lib.hid (fun (W : World) (h : Hid (Below w.heap.size w W)) => (hS.from h).at (i := i) (by omega))
    have hin : i < len0 := by omega
    obtain ⟨bb, oo, ha, _⟩ := hS.at (i := i) hin
    obtain rfl := ha
    have hCe := Lib.hid (fun (W : World) (h : Hid (Below w.heap.size w W)) => show W.cell? ⟨bb, oo + i * 4, none⟩ = some (.string (strOfNums (z0.getD i default).nm)) ∧ W.cell? ⟨bb, oo + i * 4 + 3, none⟩ = some (.bool false) by
      obtain ⟨b', o', ha', hr⟩ := hAt.out W h
      obtain ⟨rfl, rfl⟩ : b' = bb ∧ o' = oo := by simp at ha'; exact ⟨ha'.1.symm, ha'.2.symm⟩
      obtain ⟨c0, _, _, c3⟩ := word_cells hr
      rw [q5] at c3
      exact ⟨c0, c3⟩)
    generalize fnd (z0.take i) xs = v at *
    generalize strOfNums (fold xs) = z at *
    generalize strOfNums (z0.getD i default).nm = y at *
    generalize strOfNums xs = s at *
    rw [show ((i + 1 : Nat) : Int) = (i : Int) + 1 by omega] at r1
    clear hS hC hok hle hx q1 q2 q3 q5 q6 hokx S1 S2 hAt hbd hneg hi
    go_enter Try.func6, Try.ntmps6
    go_wp2_with (first | (go_at_call 8; (with_reducible refine (awake_any _).mono ?_); rintro e w1 ⟨rfl, hb1⟩) | (go_at_call 13; (with_reducible refine (hFew.out _ (by assumption)).mono ?_); rintro e w2 ⟨rfl, rfl⟩) | (go_at_call 14; (with_reducible refine (hD.out _ (by assumption)).mono ?_); rintro e w3 ⟨rfl, hb3⟩) | (go_at_call 14; (with_reducible refine (hD1.out _ (by assumption)).mono ?_); rintro e w4 ⟨rfl, hb4⟩) | (go_at_call 14; (with_reducible refine (hD2.out _ hb4).mono ?_); rintro e w5 ⟨rfl, hb5⟩; obtain ⟨g0, g3⟩ := hCe.out _ hb5) | (go_at_call 9; (with_reducible refine (hF2.out _ (by assumption)).mono ?_); rintro e w6 ⟨rfl, hb6⟩; clear g0 g3; obtain ⟨g0, g3⟩ := hCe.out _ hb6) | (go_at_call 9; (with_reducible refine (hF.out _ (by assumption)).mono ?_); rintro e w7 ⟨rfl, hb7⟩; clear g0 g3; obtain ⟨g0, g3⟩ := hCe.out _ hb7))
    go_ret
    exact ⟨rfl, hb7.out⟩

/-! ### the row's step -/
set_option maxRecDepth 100000 in
theorem lifted (os : Os) (started : os.Started) (H : Type) (enc : TypeId × Value → H) :
    ReturnsInHanded {} Try.checked os 6 .any (Rows.namesLessSpec.pre6 enc Try.prog Try.f6 Rows.namesLessRow.domain false) (Rows.namesLessSpec.post enc Try.prog Try.f6 false true false false) := by
  refine returnsInHanded_of_change (C := Try.checked) own started (by kernel_rfl) Try.func6
    (ChangeSpec.witness6 (enc := enc) (C := Try.checked) false ⟨#[], #[.slice none 0 0, .string ByteArray.empty], []⟩ 8 (by kernel_rfl) (by kernel_rfl) (by kernel_rfl) (by kernel_rfl)) ?_
  intro W base args ds gs before hval0 hW hcnd _
  have hval : ∀ (j : Nat) t v, Try.f6.params[j]? = some t → args[j]? = some v → Value.okWide Try.prog W .any base t v := hval0
  have hW' := hW
  obtain ⟨p, q, hA0, hV, rfl, hfz, hnd⟩ := hW
  have hA : DataW.TrodAll enc Try.prog W 0 (fun _ => true) true Try.f6.params.toList args.toList ds p := hA0
  rw [Try.params6] at hA hval
  obtain ⟨v0, vs0, d0, ds0, p0, q0, hargs, rfl, rfl, h0, r0⟩ := trodAll_cons hA
  obtain ⟨v1, vs1, d1, ds1, p1, q1, rfl, rfl, rfl, h1, r1⟩ := trodAll_cons r0
  obtain ⟨rfl, rfl, rfl⟩ := trodAll_nil r1
  obtain rfl : args = #[v0, v1] := by cases args; simp_all
  obtain ⟨rfl, rfl⟩ := trodVars_none hV
  have k0 := h0
  have lt0 : ∀ x ∈ p0, x.block < W.heap.size := by obtain ⟨m, hm⟩ := k0; exact DataW.trod_lt m _ _ _ hm
  obtain ⟨a0, len0, cap0, z0, rfl, w0⟩ := open_words (hval 0 26 v0 rfl rfl) h0
  obtain ⟨a1, rfl, rfl, rfl, w1⟩ := open_string Try.underlying9 (hval 1 9 v1 rfl rfl) h1
  clear hA0 hval0
  refine (walk a0 len0 cap0 z0 a1 W w0 w1).mono fun e W' ⟨he, bel⟩ => ?_
  subst he
  exact ⟨_, rfl, _, _, _, [], _, [], hW', trodAll_mk1 (shut_bool Try.underlying4 _), (trodAll_cons_mk (Below.trod laidOut (by kernel_rfl) (of_decide_eq_true (by kernel_rfl)) k0 bel lt0) (trodAll_cons_mk (shut_string Try.underlying9 w1) trodAll_mk0)), rfl, bel.frame _, fun h => by cases h⟩

theorem over : Rows.namesLessRow.holds Try.pinned (OpenSpec.ofChange Rows.namesLessSpec) :=
  OpenClaim.holds_of_wide 6 Try.f6 rfl rfl rfl rfl rfl rfl rfl ⟨rfl, rfl, rfl, rfl, rfl⟩ rfl rfl rfl rfl rfl (by kernel_rfl) Try.func6 (by kernel_rfl)
    (of_decide_eq_true (by kernel_rfl)) (by unfold Func.isWrapper; first | (rw [if_pos (by decide +kernel)]; kernel_rfl) | (rw [if_neg (by decide +kernel)]; exact ⟨rfl, rfl⟩))
    (fun os started H enc _ => lifted os started H enc)

/-- the statement -/
theorem proved : Rows.NamesLessSaid := over
#print axioms proved
end Go.Proofs.Ytklhehodhlmhaaa.namesLess
