/- StackPushes: for every input the law returns true, and each argument reads behind the call as it read before. No condition. -/
import Derived.Test.YtfiaadejnjffeaaRows
import Derived.WalkKit
import Derived.ProofKit
import Derived.OpenShut
import Derived.Test.YtfiaadejnjffeaaBelow
import Derived.Test.YtfiaadejnjffeaaStkAwake
import Derived.ShutString
import Derived.ChangeOld
import Derived.Below
namespace Go.Proofs.Ytfiaadejnjffeaa.stackPushes
open Go.ChangeShapes Go.WideShapes Go.ChangeAt Go.RowKit
open Go.ChangeMaps (open_string shut_string)
set_option linter.unusedVariables false

theorem own : ownKnob Try.prog.godebug = none := by kernel_rfl
theorem laidOut : laidOutB Try.prog = true := by kernel_rfl

/-- WHAT THE WALK IS TOLD OF A SLICE OF INTEGERS THAT CAME IN: it is nil; or it leads to a row of 'cap' cells, the numbers 'zs' (the first 'len' are its elements, the rest its spare room), each fitting its kind. -/
def IsRow (k : IntKind) (w : World) (a : Option Addr) (len cap : Nat) (zs : List Int) : Prop :=
  (a = none ∧ len = 0 ∧ cap = 0 ∧ zs = []) ∨
  ∃ x, a = some x ∧ len ≤ cap ∧ cap ≤ maxLen ∧ zs.length = cap ∧ (∀ i, i < zs.length → w.cell? (x.add i) = some (.int k (zs.getD i 0))) ∧ ∀ n ∈ zs, (Lit.int k n).wf = true

/-! ### the walk: the Go text returns true -/
/-- what came in, as a list of integers -/
theorem isRow_sl {w : World} {a : Option Addr} {len cap : Nat} {zs : List Int} (h : IsRow .i64 w a len cap zs) : Sl w a len cap (ints (zs.take len)) := by
  rcases h with ⟨rfl, rfl, rfl, rfl⟩ | ⟨x, rfl, hl, hm, hz, hcell, hwz⟩
  · exact Sl.zero w
  · refine ⟨by simp [ints]; omega, hl, hm, fun h => (by cases h), fun hn => ?_⟩
    obtain ⟨b, o, s⟩ := x
    obtain rfl : s = none := by simpa [Addr.add] using World.cell?_spot (hcell 0 (by omega))
    refine ⟨b, o, rfl, fun i v hi => ?_⟩
    have hil : i < (zs.take len).length := by
      have := (List.getElem?_eq_some_iff.1 hi).1
      simpa [ints] using this
    rw [ints_get hil] at hi
    have hi2 : i < len ∧ i < zs.length := by simp at hil; omega
    have := hcell i hi2.2
    rw [add_plain] at this
    rw [this, ← hi]
    simp [List.getD, hi2.1]

set_option maxHeartbeats 1000000 in
theorem walk (a0 : Option Addr) (len0 cap0 : Nat) (z0 : List Int) (a1 : Int) (a2 : Option Addr) (len2 cap2 : Nat) (z2 : List Int) (w : World) (w0 : IsRow .i64 w a0 len0 cap0 z0) (w1 : (Lit.int .i64 a1).wf = true) (w2 : IsRow .i64 w a2 len2 cap2 z2) :
    Calls Try.prog 3 #[.slice a0 len0 cap0, .int .i64 a1, .slice a2 len2 cap2] w fun e w' => e = .returned (.bool true) ∧ Below w.heap.size w w' := by
  have hk := bd_i64 w1
  have h := isRow_sl w0
  have g := isRow_sl w2
  clear w0 w1 w2
  generalize z0.take len0 = xs at h
  generalize z2.take len2 = ys at g
  by_cases hl : 60 < len0
  · clear h g
    go_enter Try.func3, Try.ntmps3
    go_wp2_with (go_at_call 8; refine (awake_any _).mono ?_; rintro e w1 ⟨rfl, hb1⟩)
    go_ret
    exact ⟨rfl, by assumption⟩
  by_cases hl2 : 60 < len2
  · clear h g
    go_enter Try.func3, Try.ntmps3
    go_wp2_with (go_at_call 8; refine (awake_any _).mono ?_; rintro e w1 ⟨rfl, hb1⟩)
    go_ret
    exact ⟨rfl, by assumption⟩
  have hn : len0 + len2 ≤ 17592186044416 := by omega
  have hn0 : len0 ≤ 17592186044416 := by omega
  have hnew := new0
  go_enter Try.func3, Try.ntmps3
  go_wp2_with (first
    | (go_at_call 8; refine (awake_any _).mono ?_; rintro e w1 ⟨rfl, hb1⟩; obtain ⟨a2, c2, w2, r2, O2, b2⟩ := app_new (ty := 22) (h.below hb1) hn0; have r2' := Lib.hid r2; have M2 := O2.sl; have h2 := (h.below hb1).below b2; have g2 := (g.below hb1).below b2; have B2 := Lib.hid (hb1.trans (b2.mono hb1.size)); clear r2 O2 b2 hb1 h g)
    | (at_builtin; refine wpList_append_run rfl (.tmp 29) (.tmp 30) 22 rfl _ _ _ rfl rfl r2'.out ?_)
    | (go_at_call 9; (with_reducible refine (push_any _ _ _ _ _ _ _ _ _ _ h2 g2 hn hk).mono ?_); rintro e w3 ⟨a3, c3, rfl, hA, b3⟩; have h3 := h2.below b3; have g3 := g2.below b3; have M3 := M2.below b3; have B3 := Lib.hid (B2.out.trans (b3.mono B2.out.size)); clear h2 g2 M2 b3)
    | (go_at_call 10; (with_reducible refine (rpush_any _ _ _ _ _ _ _ _ _ _ h3 g3 hn hk).mono ?_); rintro e w4 ⟨a4, c4, rfl, hB, b4⟩; have h4 := h3.below b4; have M4 := M3.below b4; have A4 := hA.below b4; have B4 := Lib.hid (B3.out.trans (b4.mono B3.out.size)); clear h3 g3 M3 hA b4)
    | (go_at_call 11; (with_reducible refine (pop_any _ _ _ _ _ _ h4 hn0 hk).mono ?_); rintro e w5 ⟨a5, c5, x5, d5, rfl, hC, hD, b5⟩; have h5 := h4.below b5; have M5 := M4.below b5; have A5 := A4.below b5; have E5 := hB.below b5; have B5 := Lib.hid (B4.out.trans (b5.mono B4.out.size)); clear h4 M4 A4 hB b5)
    | (go_at_call 12; (with_reducible refine (rpop_any _ _ _ _ _ _ h5 hk).mono ?_); rintro e w6 ⟨a6, c6, x6, d6, rfl, hE, hF, b6⟩; have h6 := h5.below b6; have M6 := M5.below b6; have A6 := A5.below b6; have E6 := E5.below b6; have C6 := hC.below b6; have D6 := hD.below b6; have B6 := Lib.hid (B5.out.trans (b6.mono B5.out.size)); clear h5 M5 A5 E5 hC hD b6)
    | (go_at_call 13; (with_reducible refine (same_any _ _ _ _ _ _ _ _ A6 E6).mono ?_); rintro e w7 ⟨rfl, b7⟩; have B7 := Lib.hid (B6.out.trans (b7.mono B6.out.size)); have h7 := h6.below b7; have M7 := M6.below b7; have C7 := C6.below b7; have D7 := D6.below b7; have E7 := hE.below b7; have F7 := hF.below b7; clear h6 M6 C6 D6 hE hF A6 E6 b7)
    | (go_at_call 13; (with_reducible refine (same_any _ _ _ _ _ _ _ _ C7 E7).mono ?_); rintro e w8 ⟨rfl, b8⟩; have B8 := Lib.hid (B7.out.trans (b8.mono B7.out.size)); have h8 := h7.below b8; have M8 := M7.below b8; have D8 := D7.below b8; have F8 := F7.below b8; clear h7 M7 C7 D7 E7 F7 b8)
    | (go_at_call 13; (with_reducible refine (same_any _ _ _ _ _ _ _ _ D8 F8).mono ?_); rintro e w9 ⟨rfl, b9⟩; have B9 := Lib.hid (B8.out.trans (b9.mono B8.out.size)); have h9 := h8.below b9; have M9 := M8.below b9; clear h8 M8 D8 F8 b9)
    | (go_at_call 13; (with_reducible refine (same_any _ _ _ _ _ _ _ _ h9 M9).mono ?_); rintro e w10 ⟨rfl, b10⟩; have B10 := Lib.hid (B9.out.trans (b10.mono B9.out.size)); clear h9 M9 b10))
  go_ret
  exact ⟨rfl, B10.out⟩

/-! ### THE ROW's STEP: WRITTEN OUT: LEAVE IT -/
set_option maxRecDepth 100000 in
theorem lifted (os : Os) (started : os.Started) (H : Type) (enc : TypeId × Value → H) :
    ReturnsInHanded {} Try.checked os 3 .any (Rows.stackPushesSpec.pre6 enc Try.prog Try.f3 Rows.stackPushesRow.domain false) (Rows.stackPushesSpec.post enc Try.prog Try.f3 false true false false) := by
  refine returnsInHanded_of_change (C := Try.checked) own started (by kernel_rfl) Try.func3
    (ChangeSpec.witness6 (enc := enc) (C := Try.checked) false ⟨#[], #[.slice none 0 0, .int .i64 0, .slice none 0 0], []⟩ 8 (by kernel_rfl) (by kernel_rfl) (by kernel_rfl) (by kernel_rfl)) ?_
  intro W base args ds gs before hval0 hW hcnd _
  have hval : ∀ (j : Nat) t v, Try.f3.params[j]? = some t → args[j]? = some v → Value.okWide Try.prog W .any base t v := hval0
  have hW' := hW
  obtain ⟨p, q, hA0, hV, rfl, hfz, hnd⟩ := hW
  have hA : DataW.TrodAll enc Try.prog W 0 (fun _ => true) true Try.f3.params.toList args.toList ds p := hA0
  rw [Try.params3] at hA hval
  obtain ⟨v0, vs0, d0, ds0, p0, q0, hargs, rfl, rfl, h0, r0⟩ := trodAll_cons hA
  obtain ⟨v1, vs1, d1, ds1, p1, q1, rfl, rfl, rfl, h1, r1⟩ := trodAll_cons r0
  obtain ⟨v2, vs2, d2, ds2, p2, q2, rfl, rfl, rfl, h2, r2⟩ := trodAll_cons r1
  obtain ⟨rfl, rfl, rfl⟩ := trodAll_nil r2
  obtain rfl : args = #[v0, v1, v2] := by cases args; simp_all
  obtain ⟨rfl, rfl⟩ := trodVars_none hV
  obtain ⟨a0, len0, cap0, rfl⟩ := okWide_slice Try.underlying22 (hval 0 22 v0 rfl rfl)
  have k0 := h0
  have lt0 : ∀ x ∈ p0, x.block < W.heap.size := by obtain ⟨m, hm⟩ := k0; exact DataW.trod_lt m _ _ _ hm
  obtain ⟨z0, w0⟩ : ∃ zs, IsRow .i64 W a0 len0 cap0 zs := by
    obtain ⟨fuel, hf⟩ := h0
    rcases open_ints Try.underlying22 Try.underlying3 (by kernel_rfl) hf with ⟨hcs, _⟩ | ⟨x, l, c, zs, hcs, _, hl, hm, hz, _, hcell, hwz⟩
    · simp [Value.cells] at hcs
      obtain ⟨rfl, rfl, rfl⟩ := hcs
      exact ⟨[], .inl ⟨rfl, rfl, rfl, rfl⟩⟩
    · simp [Value.cells] at hcs
      obtain ⟨rfl, rfl, rfl⟩ := hcs
      exact ⟨zs, .inr ⟨_, rfl, hl, hm, by simpa using hz, hcell, hwz⟩⟩
  obtain ⟨a1, rfl, rfl, rfl, w1⟩ := open_int Try.underlying3 (hval 1 3 v1 rfl rfl) h1
  obtain ⟨a2, len2, cap2, rfl⟩ := okWide_slice Try.underlying22 (hval 2 22 v2 rfl rfl)
  have k2 := h2
  have lt2 : ∀ x ∈ p2, x.block < W.heap.size := by obtain ⟨m, hm⟩ := k2; exact DataW.trod_lt m _ _ _ hm
  obtain ⟨z2, w2⟩ : ∃ zs, IsRow .i64 W a2 len2 cap2 zs := by
    obtain ⟨fuel, hf⟩ := h2
    rcases open_ints Try.underlying22 Try.underlying3 (by kernel_rfl) hf with ⟨hcs, _⟩ | ⟨x, l, c, zs, hcs, _, hl, hm, hz, _, hcell, hwz⟩
    · simp [Value.cells] at hcs
      obtain ⟨rfl, rfl, rfl⟩ := hcs
      exact ⟨[], .inl ⟨rfl, rfl, rfl, rfl⟩⟩
    · simp [Value.cells] at hcs
      obtain ⟨rfl, rfl, rfl⟩ := hcs
      exact ⟨zs, .inr ⟨_, rfl, hl, hm, by simpa using hz, hcell, hwz⟩⟩
  clear hA0 hval0
  refine (walk a0 len0 cap0 z0 a1 a2 len2 cap2 z2 W w0 w1 w2).mono fun e W' ⟨he, bel⟩ => ?_
  subst he
  exact ⟨_, rfl, _, _, _, [], _, [], hW', trodAll_mk1 (shut_bool Try.underlying4 _), (trodAll_cons_mk (Below.trod laidOut (by kernel_rfl) (of_decide_eq_true (by kernel_rfl)) k0 bel lt0) (trodAll_cons_mk (shut_int Try.underlying3 w1) (trodAll_cons_mk (Below.trod laidOut (by kernel_rfl) (of_decide_eq_true (by kernel_rfl)) k2 bel lt2) trodAll_mk0))), rfl, bel.frame _, fun h => by cases h⟩

theorem over : Rows.stackPushesRow.holds Try.pinned (OpenSpec.ofChange Rows.stackPushesSpec) :=
  OpenClaim.holds_of_wide 3 Try.f3 rfl rfl rfl rfl rfl rfl rfl ⟨rfl, rfl, rfl, rfl, rfl⟩ rfl rfl rfl rfl rfl (by kernel_rfl) Try.func3 (by kernel_rfl)
    (of_decide_eq_true (by kernel_rfl)) (by unfold Func.isWrapper; first | (rw [if_pos (by decide +kernel)]; kernel_rfl) | (rw [if_neg (by decide +kernel)]; exact ⟨rfl, rfl⟩))
    (fun os started H enc _ => lifted os started H enc)

/-- ████ THE STATEMENT ████ -/
theorem proved : Rows.StackPushesSaid := over
#print axioms proved
end Go.Proofs.Ytfiaadejnjffeaa.stackPushes
