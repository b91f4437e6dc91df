/- StackRolls: for every input the law returns true, and each argument reads behind the call as it read before. No condition. -/
import Derived.Test.YtfiaadejnjffeaaRows
import Derived.WalkKit
import Derived.ProofKit
import Derived.OpenShut
import Derived.Test.YtfiaadejnjffeaaBelow
import Derived.Test.YtfiaadejnjffeaaStkLaw
import Derived.ShutString
import Derived.ChangeOld
import Derived.Below
namespace Go.Proofs.Ytfiaadejnjffeaa.stackRolls
open Go.ChangeShapes Go.WideShapes Go.ChangeAt Go.RowKit
open Go.ChangeMaps (open_string shut_string)
set_option linter.unusedVariables false

theorem own : ownKnob Try.prog.godebug = none := by kernel_rfl
theorem laidOut : laidOutB Try.prog = true := by kernel_rfl

/-- WHAT THE WALK IS TOLD OF A SLICE OF INTEGERS THAT CAME IN: it is nil; or it leads to a row of 'cap' cells, the numbers 'zs' (the first 'len' are its elements, the rest its spare room), each fitting its kind. -/
def IsRow (k : IntKind) (w : World) (a : Option Addr) (len cap : Nat) (zs : List Int) : Prop :=
  (a = none ∧ len = 0 ∧ cap = 0 ∧ zs = []) ∨
  ∃ x, a = some x ∧ len ≤ cap ∧ cap ≤ maxLen ∧ zs.length = cap ∧ (∀ i, i < zs.length → w.cell? (x.add i) = some (.int k (zs.getD i 0))) ∧ ∀ n ∈ zs, (Lit.int k n).wf = true

/-! ### the walk: the Go text returns true -/
/-- what came in, as a list of integers -/
theorem isRow_sl {w : World} {a : Option Addr} {len cap : Nat} {zs : List Int} (h : IsRow .i64 w a len cap zs) : Sl w a len cap (ints (zs.take len)) := by
  rcases h with ⟨rfl, rfl, rfl, rfl⟩ | ⟨x, rfl, hl, hm, hz, hcell, hwz⟩
  · exact Sl.zero w
  · refine ⟨by simp [ints]; omega, hl, hm, fun h => (by cases h), fun hn => ?_⟩
    obtain ⟨b, o, s⟩ := x
    obtain rfl : s = none := by simpa [Addr.add] using World.cell?_spot (hcell 0 (by omega))
    refine ⟨b, o, rfl, fun i v hi => ?_⟩
    have hil : i < (zs.take len).length := by
      have := (List.getElem?_eq_some_iff.1 hi).1
      simpa [ints] using this
    rw [ints_get hil] at hi
    have hi2 : i < len ∧ i < zs.length := by simp at hil; omega
    have := hcell i hi2.2
    rw [add_plain] at this
    rw [this, ← hi]
    simp [List.getD, hi2.1]

set_option maxHeartbeats 1000000 in
theorem walk (a0 : Option Addr) (len0 cap0 : Nat) (z0 : List Int) (a1 : Int) (w : World) (w0 : IsRow .i64 w a0 len0 cap0 z0) (w1 : (Lit.int .u8 a1).wf = true) :
    Calls Try.prog 6 #[.slice a0 len0 cap0, .int .u8 a1] w fun e w' => e = .returned (.bool true) ∧ Below w.heap.size w w' := by
  have hk := bd_u8 w1
  have h := isRow_sl w0
  clear w0 w1
  generalize z0.take len0 = xs at h
  by_cases hl : 60 < len0
  · clear h
    go_enter Try.func6, Try.ntmps6
    go_wp2_with (go_at_call 8; refine (awake_any _).mono ?_; rintro e w1 ⟨rfl, hb1⟩)
    go_ret
    exact ⟨rfl, by assumption⟩
  by_cases hl2 : len0 = 0
  · subst hl2
    clear h
    go_enter Try.func6, Try.ntmps6
    go_wp2_with (go_at_call 8; refine (awake_any _).mono ?_; rintro e w1 ⟨rfl, hb1⟩)
    go_ret
    exact ⟨rfl, by assumption⟩
  have hn : len0 ≤ 17592186044416 := by omega
  have hx := h.nums
  obtain ⟨k, hkv⟩ : ∃ k : Nat, Int.tmod a1 (len0 : Int) = (k : Int) := Int.eq_ofNat_of_zero_le (Int.tmod_nonneg _ hk.1)
  have hkl : k < len0 := by
    have := Int.tmod_lt_of_pos a1 (show (0 : Int) < (len0 : Int) by omega)
    omega
  obtain ⟨j, hj⟩ : ∃ j, len0 = j + 1 := ⟨len0 - 1, by omega⟩
  have e1 : (len0 : Int) - 1 = (j : Int) := by omega
  have hj' := Lib.hid hj
  have hx' := Lib.hid hx
  have t0 : ((len0 : Int) == 0) = false := by simp; omega
  have t1 : decide (60 < len0) = false := by simp; omega
  have t2 : decide (len0 = 0) = false := by simp; omega
  have h0 := Lib.hid h
  clear hj hx
  go_enter Try.func6, Try.ntmps6
  go_wp2_with (go_at_call 8; refine (awake_any _).mono ?_; rintro e w1 ⟨rfl, hb1⟩; have h1 := h.below hb1; clear h)
  go_loopw [7, 8] (fun s i wr => ∃ q : Nat, ∃ a' c', q ≤ k + 1 ∧ i = .int .i64 q ∧ s = .slice a' len0 c' ∧ Sl wr a' len0 c' (ints (stR xs k q)) ∧ Below w.heap.size w wr) (fun _ i _ => k + 1 - (intOf i).toNat)
  case atStart => exact ⟨0, a0, cap0, by omega, rfl, rfl, by rw [stR_0]; exact h1, hb1⟩
  case round =>
    obtain ⟨q, a', c', hq, rfl, rfl, hS, hB⟩ := hrel
    by_cases hqk : q ≤ k
    · have hlt : q < k + 1 := by omega
      have hkx : k < xs.length := by rw [hx'.out]; exact hkl
      have e3 := Lib.hid (stR_last hkx hlt)
      go_wp2_with (first
        | (go_at_call 14; (with_reducible refine (rl_pick _ _ _ _ _ _ _ hS hkx hlt hn hx'.out).mono ?_); rintro e w3 ⟨rfl, b3⟩; have h3 := hS.below b3; have B3 := Lib.hid (hB.trans (b3.mono hB.size)); clear hS hB b3)
        | (go_at_call 16; (with_reducible refine (rl_roll _ _ _ _ _ _ _ h3 hkx hlt hn hx'.out).mono ?_); rintro e w4 ⟨a4, c4, rfl, hR, b4⟩; obtain ⟨b5, o5, rfl, hc5⟩ := hR.int (i := j) (by rw [hR.nums]; have := hj'.out; omega); rw [show j = xs.length - 1 by rw [hx'.out]; have := hj'.out; omega, e3.out, show xs.length - 1 = j by rw [hx'.out]; have := hj'.out; omega] at hc5; have hR' := Lib.hid hR; have B4 := Lib.hid (B3.out.trans (b4.mono B3.out.size)); clear hR b4 h3 hkx))
      exact ⟨⟨q + 1, _, _, by omega, by go_num, rfl, hR'.out, B4.out⟩, by simp only [intOf]; omega⟩
    · obtain rfl : q = k + 1 := by omega
      have hkx : k < xs.length := by rw [hx'.out]; exact hkl
      rw [stR_all hkx] at hS
      have h5 := h0.out.below hB
      clear hkx h1
      go_wp2_with (go_at_call 13; (with_reducible refine (same_any _ _ _ _ _ _ _ _ hS h5).mono ?_); rintro e w8 ⟨rfl, b8⟩)
      go_ret
      exact ⟨rfl, hB.trans (b8.mono hB.size)⟩

/-! ### THE ROW's STEP: WRITTEN OUT: LEAVE IT -/
set_option maxRecDepth 100000 in
theorem lifted (os : Os) (started : os.Started) (H : Type) (enc : TypeId × Value → H) :
    ReturnsInHanded {} Try.checked os 6 .any (Rows.stackRollsSpec.pre6 enc Try.prog Try.f6 Rows.stackRollsRow.domain false) (Rows.stackRollsSpec.post enc Try.prog Try.f6 false true false false) := by
  refine returnsInHanded_of_change (C := Try.checked) own started (by kernel_rfl) Try.func6
    (ChangeSpec.witness6 (enc := enc) (C := Try.checked) false ⟨#[], #[.slice none 0 0, .int .u8 0], []⟩ 8 (by kernel_rfl) (by kernel_rfl) (by kernel_rfl) (by kernel_rfl)) ?_
  intro W base args ds gs before hval0 hW hcnd _
  have hval : ∀ (j : Nat) t v, Try.f6.params[j]? = some t → args[j]? = some v → Value.okWide Try.prog W .any base t v := hval0
  have hW' := hW
  obtain ⟨p, q, hA0, hV, rfl, hfz, hnd⟩ := hW
  have hA : DataW.TrodAll enc Try.prog W 0 (fun _ => true) true Try.f6.params.toList args.toList ds p := hA0
  rw [Try.params6] at hA hval
  obtain ⟨v0, vs0, d0, ds0, p0, q0, hargs, rfl, rfl, h0, r0⟩ := trodAll_cons hA
  obtain ⟨v1, vs1, d1, ds1, p1, q1, rfl, rfl, rfl, h1, r1⟩ := trodAll_cons r0
  obtain ⟨rfl, rfl, rfl⟩ := trodAll_nil r1
  obtain rfl : args = #[v0, v1] := by cases args; simp_all
  obtain ⟨rfl, rfl⟩ := trodVars_none hV
  obtain ⟨a0, len0, cap0, rfl⟩ := okWide_slice Try.underlying22 (hval 0 22 v0 rfl rfl)
  have k0 := h0
  have lt0 : ∀ x ∈ p0, x.block < W.heap.size := by obtain ⟨m, hm⟩ := k0; exact DataW.trod_lt m _ _ _ hm
  obtain ⟨z0, w0⟩ : ∃ zs, IsRow .i64 W a0 len0 cap0 zs := by
    obtain ⟨fuel, hf⟩ := h0
    rcases open_ints Try.underlying22 Try.underlying3 (by kernel_rfl) hf with ⟨hcs, _⟩ | ⟨x, l, c, zs, hcs, _, hl, hm, hz, _, hcell, hwz⟩
    · simp [Value.cells] at hcs
      obtain ⟨rfl, rfl, rfl⟩ := hcs
      exact ⟨[], .inl ⟨rfl, rfl, rfl, rfl⟩⟩
    · simp [Value.cells] at hcs
      obtain ⟨rfl, rfl, rfl⟩ := hcs
      exact ⟨zs, .inr ⟨_, rfl, hl, hm, by simpa using hz, hcell, hwz⟩⟩
  obtain ⟨a1, rfl, rfl, rfl, w1⟩ := open_int Try.underlying5 (hval 1 5 v1 rfl rfl) h1
  clear hA0 hval0
  refine (walk a0 len0 cap0 z0 a1 W w0 w1).mono fun e W' ⟨he, bel⟩ => ?_
  subst he
  exact ⟨_, rfl, _, _, _, [], _, [], hW', trodAll_mk1 (shut_bool Try.underlying4 _), (trodAll_cons_mk (Below.trod laidOut (by kernel_rfl) (of_decide_eq_true (by kernel_rfl)) k0 bel lt0) (trodAll_cons_mk (shut_int Try.underlying5 w1) trodAll_mk0)), rfl, bel.frame _, fun h => by cases h⟩

theorem over : Rows.stackRollsRow.holds Try.pinned (OpenSpec.ofChange Rows.stackRollsSpec) :=
  OpenClaim.holds_of_wide 6 Try.f6 rfl rfl rfl rfl rfl rfl rfl ⟨rfl, rfl, rfl, rfl, rfl⟩ rfl rfl rfl rfl rfl (by kernel_rfl) Try.func6 (by kernel_rfl)
    (of_decide_eq_true (by kernel_rfl)) (by unfold Func.isWrapper; first | (rw [if_pos (by decide +kernel)]; kernel_rfl) | (rw [if_neg (by decide +kernel)]; exact ⟨rfl, rfl⟩))
    (fun os started H enc _ => lifted os started H enc)

/-- ████ THE STATEMENT ████ -/
theorem proved : Rows.StackRollsSaid := over
#print axioms proved
end Go.Proofs.Ytfiaadejnjffeaa.stackRolls
