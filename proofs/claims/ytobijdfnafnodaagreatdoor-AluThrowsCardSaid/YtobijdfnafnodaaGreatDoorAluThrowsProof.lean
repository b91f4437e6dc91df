/- AluThrows: for every input the law returns true, and each argument reads behind the call as it read before. Condition: the listed package-level variables (nostos/ops.words) start as the program's own text lays them, and the card ties that to the text. -/
import Derived.Test.YtobijdfnafnodaaGreatDoorRows
import Derived.WalkKit
import Derived.ProofKit
import Derived.OpenShut
import Derived.ShutString
import Derived.ChangeOld
import Derived.Below
import Derived.Test.YtobijdfnafnodaaGreatDoorTie
import Derived.Test.YtobijdfnafnodaaGreatDoorCards
import Derived.Test.YtobijdfnafnodaaGreatDoorBelow
import Derived.Test.YtobijdfnafnodaaGreatDoorAluLast
import Derived.SevenTiedAt
import Derived.LaidMore
import Derived.Stop.Joined
namespace Go.Proofs.YtobijdfnafnodaaGreatDoor.aluThrows
open Go.ChangeShapes Go.WideShapes Go.ChangeAt Go.RowKit
open Go.ChangeMaps (open_string shut_string)
set_option linter.unusedVariables false

theorem own : ownKnob Tryz.prog.godebug = none := by kernel_rfl
theorem laidOut : laidOutB Tryz.prog = true := by kernel_rfl

/-- a slice of integers that came in: nil, or a row of cap cells, the numbers zs, each fitting its kind -/
def IsRow (k : IntKind) (w : World) (a : Option Addr) (len cap : Nat) (zs : List Int) : Prop :=
  (a = none ∧ len = 0 ∧ cap = 0 ∧ zs = []) ∨
  ∃ x, a = some x ∧ len ≤ cap ∧ cap ≤ maxLen ∧ zs.length = cap ∧ (∀ i, i < zs.length → w.cell? (x.add i) = some (.int k (zs.getD i 0))) ∧ ∀ n ∈ zs, (Lit.int k n).wf = true

/-! ### the walk: the Go text returns true -/
open Sk (Sl ints)
/-- what came in, as a list of integers -/
theorem isRow_sl {w : World} {a : Option Addr} {len cap : Nat} {zs : List Int} (h : IsRow .i64 w a len cap zs) : Sl w a len cap (ints (zs.take len)) ∧ I64s (zs.take len) := by
  rcases h with ⟨rfl, rfl, rfl, rfl⟩ | ⟨x, rfl, hl, hm, hz, hcell, hwz⟩
  · exact ⟨Sk.Sl.zero w, fun x hx => (by cases hx)⟩
  · refine ⟨⟨by simp [ints]; omega, hl, hm, fun h => (by cases h), fun hn => ?_⟩, fun x hx => bd_i64 (hwz x (List.mem_of_mem_take hx))⟩
    obtain ⟨b, o, s⟩ := x
    obtain rfl : s = none := by simpa [Addr.add] using World.cell?_spot (hcell 0 (by omega))
    refine ⟨b, o, rfl, fun i v hi => ?_⟩
    have hil : i < (zs.take len).length := by
      have := (List.getElem?_eq_some_iff.1 hi).1
      simpa [ints] using this
    rw [Sk.ints_get hil] at hi
    have hi2 : i < len ∧ i < zs.length := by simp at hil; omega
    have := hcell i hi2.2
    rw [add_plain] at this
    rw [this, ← hi]
    simp [List.getD, hi2.1]

set_option maxRecDepth 100000 in
set_option maxHeartbeats 8000000 in
theorem walk (a0 : Int) (a1 : Option Addr) (len1 cap1 : Nat) (z1 : List Int) (w : World) (hL : Laid w) (w0 : (Lit.int .u8 a0).wf = true) (w1 : IsRow .i64 w a1 len1 cap1 z1) :
    Calls Tryz.prog 7 #[.int .u8 a0, .slice a1 len1 cap1] w fun e w' => e = .returned (.bool true) ∧ Below w.heap.size w w' := by
  have hk := bd_u8 w0
  obtain ⟨h, hI⟩ := isRow_sl w1
  have hA := Lib.hid (awake_any w hL)
  clear w0 w1
  generalize z1.take len1 = xs at h hI
  by_cases hl : 40 < len1
  · clear h hI hL
    go_enter Tryz.func7, Tryz.ntmps7
    go_wp2_with (go_at_call 8; (with_reducible refine hA.out.mono ?_); rintro e w1 ⟨rfl, b1⟩; have B1 := Lib.hid b1; clear b1)
    go_ret
    exact ⟨rfl, B1.out⟩
  have hb := h.bd
  have hx := h.nums
  have ho : I64 a0 := by unfold I64; omega
  have hD1 := fun (V : World) (hV : Below w.heap.size w V) => do_phO a0 a1 len1 cap1 xs 1000 V (laid_on hL hV) ho (h.below hV) (by omega) hI (by unfold I64; omega)
  have hD0 := fun (V : World) (hV : Below w.heap.size w V) => do_phO a0 a1 len1 cap1 xs 0 V (laid_on hL hV) ho (h.below hV) (by omega) hI (by unfold I64; omega)
  have hDn := fun (V : World) (hV : Below w.heap.size w V) => do_phO a0 none 0 0 [] 1000 V (laid_on hL hV) ho (Sk.Sl.zero V) (by omega) (fun x hx => by cases hx) (by unfold I64; omega)
  have hN := Lib.hid (fun (V : World) (hV : Below w.heap.size w V) => On.name_any a0 V (laid_on hL hV) ho)
  have hF := Lib.hid (fun (V : World) => Ce.flag_any true V)
  have hlen : (len1 : Int) ≤ 40 := by omega
  obtain ⟨q, hq⟩ : ∃ q : Nat, a0 = (q : Int) := ⟨a0.toNat, by omega⟩
  have hnm := nm_law q (by omega)
  unfold nmB at hnm
  rw [← hq] at hnm
  rcases throws_law a0 xs (by omega) with ⟨h1, h2, h3⟩ | ⟨t, ht, h1, h2⟩ | ⟨l, l0, t0, φ, h1, h2, h4, h3⟩
  · have h5 : doR (phO a0) [] 1000 = ([], 0, false) := by rw [h3]; rfl
    have e1 := Lib.hid (fun (V : World) (hV : Below w.heap.size w V) => (hD1 V hV).mono fun e w' hh => hh.at (n := 0) (xs := []) (t := 0) (z := false) h1 rfl)
    have e0 := Lib.hid (fun (V : World) (hV : Below w.heap.size w V) => (hD0 V hV).mono fun e w' hh => hh.at (n := 0) (xs := []) (t := 0) (z := false) h2 rfl)
    have en := Lib.hid (fun (V : World) (hV : Below w.heap.size w V) => (hDn V hV).mono fun e w' hh => hh.at (n := 0) (xs := []) (t := 0) (z := false) h5 rfl)
    clear hD1 hD0 hDn h1 h2 h3 h5 hL h hI hx hnm hq ho hN hF
    go_enter Tryz.func7, Tryz.ntmps7
    go_wp2_with (first | (go_at_call 8; (with_reducible refine hA.out.mono ?_); rintro e w1 ⟨rfl, b1⟩; have B1 := Lib.hid b1; clear b1) | (go_at_call 9; (with_reducible refine (e1.out _ B1.out).mono ?_); rintro e w2 ⟨a2', c2, rfl, hs2, b2⟩; have B2 := Lib.hid (B1.out.trans (b2.mono B1.out.size)); clear b2 hs2) | (go_at_call 9; (with_reducible refine (e0.out _ B2.out).mono ?_); rintro e w3 ⟨a3', c3, rfl, hs3, b3⟩; have B3 := Lib.hid (B2.out.trans (b3.mono B2.out.size)); clear b3 hs3) | (go_at_call 9; (with_reducible refine (en.out _ B3.out).mono ?_); rintro e w4 ⟨a4', c4, rfl, hs4, b4⟩; have B4 := Lib.hid (B3.out.trans (b4.mono B3.out.size)); clear b4 hs4))
    go_ret
    exact ⟨rfl, B4.out⟩
  · obtain ⟨ln, hln⟩ : ∃ ln, doR (phO a0) [] 1000 = ln := ⟨_, rfl⟩
    obtain ⟨ln, tn, zn⟩ := ln
    have e1 := Lib.hid (fun (V : World) (hV : Below w.heap.size w V) => (hD1 V hV).mono fun e w' hh => hh.at (n := 0) (xs := []) (t := t) (z := true) h1 rfl)
    have e0 := Lib.hid (fun (V : World) (hV : Below w.heap.size w V) => (hD0 V hV).mono fun e w' hh => hh.at (n := 0) (xs := []) (t := t) (z := true) h2 rfl)
    have en := Lib.hid (fun (V : World) (hV : Below w.heap.size w V) => (hDn V hV).mono fun e w' hh => hh.at (n := ln.length) (xs := ln) (t := tn) (z := zn) hln rfl)
    clear hD1 hD0 hDn h1 h2 hln hL h hI hx hnm hq ho hN hF
    generalize ln.length = nn at *
    rcases ht with rfl | rfl | rfl
    all_goals
      go_enter Tryz.func7, Tryz.ntmps7
      go_wp2_with (first | (go_at_call 8; (with_reducible refine hA.out.mono ?_); rintro e w1 ⟨rfl, b1⟩; have B1 := Lib.hid b1; clear b1) | (go_at_call 9; (with_reducible refine (e1.out _ B1.out).mono ?_); rintro e w2 ⟨a2', c2, rfl, hs2, b2⟩; have B2 := Lib.hid (B1.out.trans (b2.mono B1.out.size)); clear b2 hs2) | (go_at_call 9; (with_reducible refine (e0.out _ B2.out).mono ?_); rintro e w3 ⟨a3', c3, rfl, hs3, b3⟩; have B3 := Lib.hid (B2.out.trans (b3.mono B2.out.size)); clear b3 hs3) | (go_at_call 9; (with_reducible refine (en.out _ B3.out).mono ?_); rintro e w4 ⟨a4', c4, rfl, hs4, b4⟩; have B4 := Lib.hid (B3.out.trans (b4.mono B3.out.size)); clear b4 hs4))
      go_ret
      exact ⟨rfl, B4.out⟩
  · obtain ⟨ln, hln⟩ : ∃ ln, doR (phO a0) [] 1000 = ln := ⟨_, rfl⟩
    obtain ⟨ln, tn, zn⟩ := ln
    have hg := none_law h3
    rw [← h3, hln] at hg
    have e1 := Lib.hid (fun (V : World) (hV : Below w.heap.size w V) => (hD1 V hV).mono fun e w' hh => hh.at (n := l.length) (xs := l) (t := 0) (z := true) h1 rfl)
    have e0 := Lib.hid (fun (V : World) (hV : Below w.heap.size w V) => (hD0 V hV).mono fun e w' hh => hh.at (n := l0.length) (xs := l0) (t := t0) (z := true) h2 rfl)
    have en := Lib.hid (fun (V : World) (hV : Below w.heap.size w V) => (hDn V hV).mono fun e w' hh => hh.at (n := ln.length) (xs := ln) (t := tn) (z := zn) hln rfl)
    have hcase : (l.length = 0 ∧ t0 = 0) ∨ ((0 < l.length) ∧ t0 = -3) := by
      rcases h4 with ⟨h5, h6⟩ | ⟨h5, h6⟩
      · exact .inl ⟨by rw [h5]; rfl, h6⟩
      · exact .inr ⟨List.length_pos_iff.2 h5, h6⟩
    obtain ⟨-, -, k27, k60, k61⟩ := hnm
    have hq27 : (q == 27) = (a0 == 27) := by rw [hq, Bool.eq_iff_iff]; simp only [beq_iff_eq]; omega
    have hq60 : (q == 60) = (a0 == 60) := by rw [hq, Bool.eq_iff_iff]; simp only [beq_iff_eq]; omega
    have hq61 : (q == 61) = (a0 == 61) := by rw [hq, Bool.eq_iff_iff]; simp only [beq_iff_eq]; omega
    rw [hq27] at k27
    rw [hq60] at k60
    rw [hq61] at k61
    have hex : (a0 == 27 && a0 == 60) = false ∧ (a0 == 27 && a0 == 61) = false ∧ (a0 == 60 && a0 == 61) = false := by
      refine ⟨?_, ?_, ?_⟩ <;> (rw [Bool.and_eq_false_iff]; simp only [beq_eq_false_iff_ne]; omega)
    clear hD1 hD0 hDn h1 h2 h3 h4 hln hL h hI hx ho hq27 hq60 hq61 hq
    generalize (a0 == 27) = x27 at *
    generalize (a0 == 60) = x60 at *
    generalize (a0 == 61) = x61 at *
    generalize strOfNums (On.nm a0) = s at *
    generalize ln.length = nn at *
    generalize l0.length = n0 at *
    generalize l.length = n1 at *
    have hFF := Lib.hid (fun (V : World) => show Calls Tryz.prog 17 #[.bool true] V (fun e w' => e = .returned (.int .i64 (-1)) ∧ V = w') from hF.out V)
    clear hF
    cases x27 <;> cases x60 <;> cases x61 <;> first | (exact absurd hex.1 (by decide)) | (exact absurd hex.2.1 (by decide)) | (exact absurd hex.2.2 (by decide)) | skip
    all_goals
      clear hex
      first | (replace hg : (tn == 0) = true := hg) | (replace hg : (tn == 0) = false := hg)
      rcases hcase with ⟨rfl, rfl⟩ | ⟨hpos, rfl⟩
      all_goals
        go_enter Tryz.func7, Tryz.ntmps7
        go_wp2_with (first | (go_at_call 8; (with_reducible refine hA.out.mono ?_); rintro e w1 ⟨rfl, b1⟩; have B1 := Lib.hid b1; clear b1) | (go_at_call 9; (with_reducible refine (e1.out _ B1.out).mono ?_); rintro e w2 ⟨a2', c2, rfl, hs2, b2⟩; have B2 := Lib.hid (B1.out.trans (b2.mono B1.out.size)); clear b2 hs2) | (go_at_call 9; (with_reducible refine (e0.out _ B2.out).mono ?_); rintro e w3 ⟨a3', c3, rfl, hs3, b3⟩; have B3 := Lib.hid (B2.out.trans (b3.mono B2.out.size)); clear b3 hs3) | (go_at_call 9; (with_reducible refine (en.out _ B3.out).mono ?_); rintro e w4 ⟨a4', c4, rfl, hs4, b4⟩; have B4 := Lib.hid (B3.out.trans (b4.mono B3.out.size)); clear b4 hs4) | (go_at_call 12; (with_reducible refine (hN.out _ B4.out).mono ?_); rintro e w5 ⟨rfl, rfl⟩) | (go_at_call 17; (with_reducible refine (hFF.out _).mono ?_); rintro e w6 ⟨rfl, rfl⟩))
        go_ret
        exact ⟨rfl, B4.out⟩

/-! ### the door's own heap meets the condition -/
theorem door_met (os : Os) (args : Array Value) : laidMetH Tryz.prog [("nostos/ops.words", Rows.laid_nostos_ops_words)] ((World.doorLaid Tryz.prog 14 os).forCall (fun _ _ => 0) ⟨#[], args, []⟩).memory :=
  laidMetH_of_parts3 (fuel := 8) (laidMet_of_run' 8 (by kernel_rfl) (by kernel_rfl)) (by kernel_rfl) (by kernel_rfl)

/-! ### the row's step -/
set_option maxRecDepth 100000 in
theorem lifted (os : Os) (started : os.Started) (H : Type) (enc : TypeId × Value → H) :
    ReturnsInHanded {} Tryz.checked os 7 .any (fun w args => (Rows.aluThrowsSpec.pre enc Tryz.prog Tryz.f7 [] false w args ∧ laidMetH Tryz.prog [("nostos/ops.words", Rows.laid_nostos_ops_words)] w) ∧ sizedMet enc Tryz.prog Tryz.f7 (OpenSpec.ofChange Rows.aluThrowsSpec) false w args)
      (Rows.aluThrowsSpec.post enc Tryz.prog Tryz.f7 false true false false) := by
  refine returnsInHanded_of_change_and (C := Tryz.checked) (X := fun w _ => laidMetH Tryz.prog [("nostos/ops.words", Rows.laid_nostos_ops_words)] w) (fun _ _ _ hh h => h.of_heap hh) own started (by kernel_rfl) Tryz.func7
    (ChangeSpec.witness_shaped (enc := enc) (C := Tryz.checked) (os := os) (X := fun w _ => laidMetH Tryz.prog [("nostos/ops.words", Rows.laid_nostos_ops_words)] w) false (World.doorLaid Tryz.prog 14 os) #[.int .u8 0, .slice none 0 0] 8 rfl (World.shaped_of_RefB (by kernel_rfl) (by kernel_rfl)) (by kernel_rfl) (by kernel_rfl) (by kernel_rfl) (door_met os _)) ?_
  intro W base args ds gs before hval0 hW _ _ hL0 _
  have hval : ∀ (j : Nat) t v, Tryz.f7.params[j]? = some t → args[j]? = some v → Value.okWide Tryz.prog W .any base t v := hval0
  have hW' := hW
  obtain ⟨p, q, hA0, hV, rfl, hfz, hnd⟩ := hW
  have hA : DataW.TrodAll enc Tryz.prog W 0 (fun _ => true) true Tryz.f7.params.toList args.toList ds p := hA0
  rw [Tryz.params7] at hA hval
  obtain ⟨v0, vs0, d0, ds0, p0, q0, hargs, rfl, rfl, h0, r0⟩ := trodAll_cons hA
  obtain ⟨v1, vs1, d1, ds1, p1, q1, rfl, rfl, rfl, h1, r1⟩ := trodAll_cons r0
  obtain ⟨rfl, rfl, rfl⟩ := trodAll_nil r1
  obtain rfl : args = #[v0, v1] := by cases args; simp_all
  obtain ⟨rfl, rfl⟩ := trodVars_none hV
  obtain ⟨a0, rfl, rfl, rfl, w0⟩ := open_int Tryz.underlying5 (hval 0 5 v0 rfl rfl) h0
  obtain ⟨a1, len1, cap1, rfl⟩ := okWide_slice Tryz.underlying22 (hval 1 22 v1 rfl rfl)
  have k1 := h1
  have lt1 : ∀ x ∈ p1, x.block < W.heap.size := by obtain ⟨m, hm⟩ := k1; exact DataW.trod_lt m _ _ _ hm
  obtain ⟨z1, w1⟩ : ∃ zs, IsRow .i64 W a1 len1 cap1 zs := by
    obtain ⟨fuel, hf⟩ := h1
    rcases open_ints Tryz.underlying22 Tryz.underlying3 (by kernel_rfl) hf with ⟨hcs, _⟩ | ⟨x, l, c, zs, hcs, _, hl, hm, hz, _, hcell, hwz⟩
    · simp [Value.cells] at hcs
      obtain ⟨rfl, rfl, rfl⟩ := hcs
      exact ⟨[], .inl ⟨rfl, rfl, rfl, rfl⟩⟩
    · simp [Value.cells] at hcs
      obtain ⟨rfl, rfl, rfl⟩ := hcs
      exact ⟨zs, .inr ⟨_, rfl, hl, hm, by simpa using hz, hcell, hwz⟩⟩
  clear hA0 hval0
  refine (walk a0 a1 len1 cap1 z1 W (laid_of hL0) w0 w1).mono fun e W' ⟨he, bel⟩ => ?_
  subst he
  exact ⟨_, rfl, _, _, _, [], _, [], hW', trodAll_mk1 (shut_bool Tryz.underlying4 _), (trodAll_cons_mk (shut_int Tryz.underlying5 w0) (trodAll_cons_mk (Below.trod laidOut (by kernel_rfl) (of_decide_eq_true (by kernel_rfl)) k1 bel lt1) trodAll_mk0)), rfl, bel.frame _, fun h => by cases h⟩

theorem over : Rows.aluThrowsRow.holds Tryz.pinned (OpenSpec.ofChange Rows.aluThrowsSpec) :=
  OpenClaim.holds_of_wide 7 Tryz.f7 rfl rfl rfl rfl rfl rfl rfl ⟨rfl, rfl, rfl, rfl, rfl⟩ rfl rfl rfl rfl rfl (by kernel_rfl) Tryz.func7 (by kernel_rfl)
    (of_decide_eq_true (by kernel_rfl)) (by unfold Func.isWrapper; first | (rw [if_pos (by decide +kernel)]; kernel_rfl) | (rw [if_neg (by decide +kernel)]; exact ⟨rfl, rfl⟩))
    (fun os started H enc _ => lifted os started H enc)

/-- the statement -/
theorem proved : Rows.AluThrowsCardSaid := 
  Claim7.holds_tied_plain_at .later [] [.data] true (true, "51d1dfcc53ab65408596c144351444e992a538203f22ca8493db12b8c546ad23") true
    over (fun _ h => by cases h) (by kernel_rfl) (fun _ h => by cases h) aluThrows_row_tie rfl ⟨rfl, rfl⟩ (by kernel_rfl) rfl
    (fun f fn hf hfn => by
      obtain rfl : f = 7 := Option.some.inj ((show Tryz.prog.funcNamed "nostos/nostoslaw09.AluThrows" = some 7 by kernel_rfl).symm.trans hf) |>.symm
      obtain rfl : fn = Tryz.f7 := (Option.some.inj (Tryz.func7.symm.trans hfn)).symm
      exact ⟨by kernel_rfl, fun j t ht => by
        rw [Tryz.params7] at ht
        have hm : t ∈ [5, 22] := by simpa using Array.mem_of_getElem? ht
        have hall : ([5, 22].all fun u => !Tryz.prog.wantsStandIn u) = true := by kernel_rfl
        exact (show Tryz.prog.wantsStandIn t = false by simpa using List.all_eq_true.1 hall t hm)⟩)
    (by kernel_rfl)
#print axioms proved
end Go.Proofs.YtobijdfnafnodaaGreatDoor.aluThrows
