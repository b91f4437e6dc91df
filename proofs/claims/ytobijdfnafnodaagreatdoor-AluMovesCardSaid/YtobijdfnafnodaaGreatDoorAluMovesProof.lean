/- AluMoves: for every input the law returns true, and each argument reads behind the call as it read before. Condition: the listed package-level variables (nostos/ops.words) start as the program's own text lays them, and the card ties that to the text. -/
import Derived.Test.YtobijdfnafnodaaGreatDoorRows
import Derived.WalkKit
import Derived.ProofKit
import Derived.OpenShut
import Derived.ShutString
import Derived.ChangeOld
import Derived.Below
import Derived.Test.YtobijdfnafnodaaGreatDoorTie
import Derived.Test.YtobijdfnafnodaaGreatDoorCards
import Derived.Test.YtobijdfnafnodaaGreatDoorBelow
import Derived.Test.YtobijdfnafnodaaGreatDoorAluNum
import Derived.SevenTiedAt
import Derived.LaidMore
import Derived.Stop.Joined
namespace Go.Proofs.YtobijdfnafnodaaGreatDoor.aluMoves
open Go.ChangeShapes Go.WideShapes Go.ChangeAt Go.RowKit
open Go.ChangeMaps (open_string shut_string)
set_option linter.unusedVariables false

theorem own : ownKnob Tryz.prog.godebug = none := by kernel_rfl
theorem laidOut : laidOutB Tryz.prog = true := by kernel_rfl

/-- a slice of integers that came in: nil, or a row of cap cells, the numbers zs, each fitting its kind -/
def IsRow (k : IntKind) (w : World) (a : Option Addr) (len cap : Nat) (zs : List Int) : Prop :=
  (a = none ∧ len = 0 ∧ cap = 0 ∧ zs = []) ∨
  ∃ x, a = some x ∧ len ≤ cap ∧ cap ≤ maxLen ∧ zs.length = cap ∧ (∀ i, i < zs.length → w.cell? (x.add i) = some (.int k (zs.getD i 0))) ∧ ∀ n ∈ zs, (Lit.int k n).wf = true

/-! ### the walk: the Go text returns true -/
open Sk (Sl ints)
/-- what came in, as a list of integers -/
theorem isRow_sl {w : World} {a : Option Addr} {len cap : Nat} {zs : List Int} (h : IsRow .i64 w a len cap zs) : Sl w a len cap (ints (zs.take len)) ∧ I64s (zs.take len) := by
  rcases h with ⟨rfl, rfl, rfl, rfl⟩ | ⟨x, rfl, hl, hm, hz, hcell, hwz⟩
  · exact ⟨Sk.Sl.zero w, fun x hx => (by cases hx)⟩
  · refine ⟨⟨by simp [ints]; omega, hl, hm, fun h => (by cases h), fun hn => ?_⟩, fun x hx => bd_i64 (hwz x (List.mem_of_mem_take hx))⟩
    obtain ⟨b, o, s⟩ := x
    obtain rfl : s = none := by simpa [Addr.add] using World.cell?_spot (hcell 0 (by omega))
    refine ⟨b, o, rfl, fun i v hi => ?_⟩
    have hil : i < (zs.take len).length := by
      have := (List.getElem?_eq_some_iff.1 hi).1
      simpa [ints] using this
    rw [Sk.ints_get hil] at hi
    have hi2 : i < len ∧ i < zs.length := by simp at hil; omega
    have := hcell i hi2.2
    rw [add_plain] at this
    rw [this, ← hi]
    simp [List.getD, hi2.1]

set_option maxRecDepth 100000 in
set_option maxHeartbeats 8000000 in
theorem walk (a0 : Option Addr) (len0 cap0 : Nat) (z0 : List Int) (w : World) (hL : Laid w) (w0 : IsRow .i64 w a0 len0 cap0 z0) :
    Calls Tryz.prog 5 #[.slice a0 len0 cap0] w fun e w' => e = .returned (.bool true) ∧ Below w.heap.size w w' := by
  obtain ⟨h, hI⟩ := isRow_sl w0
  have hA := Lib.hid (awake_any w hL)
  clear w0
  generalize z0.take len0 = xs at h hI
  by_cases hl : 40 < len0
  · have t1 : decide (40 < len0) = true := decide_eq_true hl
    clear h hI hL
    go_enter Tryz.func5, Tryz.ntmps5
    go_wp2_with (go_at_call 8; (with_reducible refine hA.out.mono ?_); rintro e w1 ⟨rfl, b1⟩; have B := Lib.hid b1; clear b1)
    go_ret
    exact ⟨rfl, B.out⟩
  have t1 : decide (40 < len0) = false := decide_eq_false hl
  by_cases hl2 : len0 < 4
  · have t2 : decide (len0 < 4) = true := decide_eq_true hl2
    clear h hI hL
    go_enter Tryz.func5, Tryz.ntmps5
    go_wp2_with (go_at_call 8; (with_reducible refine hA.out.mono ?_); rintro e w1 ⟨rfl, b1⟩; have B := Lib.hid b1; clear b1)
    go_ret
    exact ⟨rfl, B.out⟩
  have t2 : decide (len0 < 4) = false := decide_eq_false hl2
  have hb := h.bd
  have hx := h.nums
  obtain ⟨p, a, b, c, d, rfl⟩ := four_top (xs := xs) (by omega)
  have hlp : p.length ≤ 36 := by rw [List.length_append] at hx; simp at hx; omega
  have hm := moves_law p a b c d hlp (fun x hx => hI x (List.mem_append_left _ hx)) (hI a (by simp)) (hI b (by simp)) (hI c (by simp)) (hI d (by simp))
  obtain ⟨r1, r2, r3⟩ := rot_law p a b c d hlp
  have hIr1 : I64s (p ++ [a, c, d, b]) := fun x hx => hI x (by simp only [List.mem_append, List.mem_cons, List.not_mem_nil, or_false] at hx ⊢; rcases hx with h | h | h | h | h <;> simp [h])
  have hIr2 : I64s (p ++ [a, d, b, c]) := fun x hx => hI x (by simp only [List.mem_append, List.mem_cons, List.not_mem_nil, or_false] at hx ⊢; rcases hx with h | h | h | h | h <;> simp [h])
  have q1 := Lib.hid (fun (V : World) (hV : Below w.heap.size w V) => word_nm nm_17 a0 len0 cap0 _ V (laid_on hL hV) (h.below hV) (by omega) hI)
  have q2 := Lib.hid (fun (V : World) (hV : Below w.heap.size w V) xa xn xc (g : Sl V xa xn xc (ints (p ++ [a, c, d, b]))) => word_nm nm_17 xa xn xc _ V (laid_on hL hV) g (by have := g.nums; simp at this; omega) hIr1)
  have q3 := Lib.hid (fun (V : World) (hV : Below w.heap.size w V) xa xn xc (g : Sl V xa xn xc (ints (p ++ [a, d, b, c]))) => word_nm nm_17 xa xn xc _ V (laid_on hL hV) g (by have := g.nums; simp at this; omega) hIr2)
  rw [r1] at q1
  rw [r2] at q2
  rw [r3] at q3
  obtain ⟨m0, m1, m2, m3, m4, m5, m6, m7⟩ := hm
  have t0' := Lib.hid (fun (V : World) (hV : Below w.heap.size w V) => twice_any nm_15 nm_15 a0 len0 cap0 _ V (laid_on hL hV) (h.below hV) (by omega) hI m0.1 m0.2.1 m0.2.2)
  have t1' := Lib.hid (fun (V : World) (hV : Below w.heap.size w V) => twice_any nm_13 nm_14 a0 len0 cap0 _ V (laid_on hL hV) (h.below hV) (by omega) hI m1.1 m1.2.1 m1.2.2)
  have t2' := Lib.hid (fun (V : World) (hV : Below w.heap.size w V) => twice_any nm_23 nm_23 a0 len0 cap0 _ V (laid_on hL hV) (h.below hV) (by omega) hI m2.1 m2.2.1 m2.2.2)
  have t3' := Lib.hid (fun (V : World) (hV : Below w.heap.size w V) => twice_any nm_16 nm_14 a0 len0 cap0 _ V (laid_on hL hV) (h.below hV) (by omega) hI m3.1 m3.2.1 m3.2.2)
  have t4' := Lib.hid (fun (V : World) (hV : Below w.heap.size w V) => twice_any nm_21 nm_22 a0 len0 cap0 _ V (laid_on hL hV) (h.below hV) (by omega) hI m4.1 m4.2.1 m4.2.2)
  have t5' := Lib.hid (fun (V : World) (hV : Below w.heap.size w V) => twice_any nm_24 nm_22 a0 len0 cap0 _ V (laid_on hL hV) (h.below hV) (by omega) hI m5.1 m5.2.1 m5.2.2)
  have t6' := Lib.hid (fun (V : World) (hV : Below w.heap.size w V) => twice_any nm_47 nm_47 a0 len0 cap0 _ V (laid_on hL hV) (h.below hV) (by omega) hI m6.1 m6.2.1 m6.2.2)
  have t7' := Lib.hid (fun (V : World) (hV : Below w.heap.size w V) => twice_any nm_40 nm_40 a0 len0 cap0 _ V (laid_on hL hV) (h.below hV) (by omega) hI m7.1 m7.2.1 m7.2.2)
  have hh := Lib.hid h
  clear hL h hI hIr1 hIr2 r1 r2 r3 hx hlp m0 m1 m2 m3 m4 m5 m6 m7
  generalize p ++ [a, b, c, d] = xs at *
  generalize p ++ [a, c, d, b] = ys at *
  generalize p ++ [a, d, b, c] = zs at *
  go_enter Tryz.func5, Tryz.ntmps5
  go_wp2_with (first | (go_at_call 8; (with_reducible refine hA.out.mono ?_); rintro e w1 ⟨rfl, b1⟩; have B := Lib.hid b1; clear b1) | (go_at_call 13; (with_reducible refine (q1.out _ B.out).mono ?_); rintro e w2 ⟨x2, n2, c2, rfl, hs2, bz⟩; replace B := Lib.hid (B.out.trans (bz.mono B.out.size)); clear bz; have Q2 := Lib.hid (q2.out _ B.out _ _ _ hs2); clear hs2 q1) | (go_at_call 13; (with_reducible refine Q2.out.mono ?_); rintro e w3 ⟨x3, n3, c3, rfl, hs3, bz⟩; replace B := Lib.hid (B.out.trans (bz.mono B.out.size)); clear bz; have Q3 := Lib.hid (q3.out _ B.out _ _ _ hs3); clear hs3 Q2) | (go_at_call 13; (with_reducible refine Q3.out.mono ?_); rintro e w4 ⟨x4, n4, c4, rfl, hs4, bz⟩; replace B := Lib.hid (B.out.trans (bz.mono B.out.size)); clear bz; have R := Lib.hid hs4; clear hs4 Q3) | (go_at_call 14; (with_reducible refine (t0'.out _ B.out).mono ?_); rintro e wt0 ⟨rfl, bz⟩; replace R := Lib.hid (R.out.below bz); replace B := Lib.hid (B.out.trans (bz.mono B.out.size)); clear bz) | (go_at_call 14; (with_reducible refine (t1'.out _ B.out).mono ?_); rintro e wt1 ⟨rfl, bz⟩; replace R := Lib.hid (R.out.below bz); replace B := Lib.hid (B.out.trans (bz.mono B.out.size)); clear bz) | (go_at_call 14; (with_reducible refine (t2'.out _ B.out).mono ?_); rintro e wt2 ⟨rfl, bz⟩; replace R := Lib.hid (R.out.below bz); replace B := Lib.hid (B.out.trans (bz.mono B.out.size)); clear bz) | (go_at_call 14; (with_reducible refine (t3'.out _ B.out).mono ?_); rintro e wt3 ⟨rfl, bz⟩; replace R := Lib.hid (R.out.below bz); replace B := Lib.hid (B.out.trans (bz.mono B.out.size)); clear bz) | (go_at_call 14; (with_reducible refine (t4'.out _ B.out).mono ?_); rintro e wt4 ⟨rfl, bz⟩; replace R := Lib.hid (R.out.below bz); replace B := Lib.hid (B.out.trans (bz.mono B.out.size)); clear bz) | (go_at_call 14; (with_reducible refine (t5'.out _ B.out).mono ?_); rintro e wt5 ⟨rfl, bz⟩; replace R := Lib.hid (R.out.below bz); replace B := Lib.hid (B.out.trans (bz.mono B.out.size)); clear bz) | (go_at_call 14; (with_reducible refine (t6'.out _ B.out).mono ?_); rintro e wt6 ⟨rfl, bz⟩; replace R := Lib.hid (R.out.below bz); replace B := Lib.hid (B.out.trans (bz.mono B.out.size)); clear bz) | (go_at_call 14; (with_reducible refine (t7'.out _ B.out).mono ?_); rintro e wt7 ⟨rfl, bz⟩; replace R := Lib.hid (R.out.below bz); replace B := Lib.hid (B.out.trans (bz.mono B.out.size)); clear bz) | (go_at_call 11; (with_reducible refine (Sk.same_any _ _ _ _ _ _ xs _ R.out (hh.out.below B.out)).mono ?_); rintro e ws ⟨rfl, bz⟩; replace R := Lib.hid (R.out.below bz); replace B := Lib.hid (B.out.trans (bz.mono B.out.size)); clear bz))
  go_ret
  exact ⟨rfl, B.out⟩

/-! ### the door's own heap meets the condition -/
theorem door_met (os : Os) (args : Array Value) : laidMetH Tryz.prog [("nostos/ops.words", Rows.laid_nostos_ops_words)] ((World.doorLaid Tryz.prog 14 os).forCall (fun _ _ => 0) ⟨#[], args, []⟩).memory :=
  laidMetH_of_parts3 (fuel := 8) (laidMet_of_run' 8 (by kernel_rfl) (by kernel_rfl)) (by kernel_rfl) (by kernel_rfl)

/-! ### the row's step -/
set_option maxRecDepth 100000 in
theorem lifted (os : Os) (started : os.Started) (H : Type) (enc : TypeId × Value → H) :
    ReturnsInHanded {} Tryz.checked os 5 .any (fun w args => (Rows.aluMovesSpec.pre enc Tryz.prog Tryz.f5 [] false w args ∧ laidMetH Tryz.prog [("nostos/ops.words", Rows.laid_nostos_ops_words)] w) ∧ sizedMet enc Tryz.prog Tryz.f5 (OpenSpec.ofChange Rows.aluMovesSpec) false w args)
      (Rows.aluMovesSpec.post enc Tryz.prog Tryz.f5 false true false false) := by
  refine returnsInHanded_of_change_and (C := Tryz.checked) (X := fun w _ => laidMetH Tryz.prog [("nostos/ops.words", Rows.laid_nostos_ops_words)] w) (fun _ _ _ hh h => h.of_heap hh) own started (by kernel_rfl) Tryz.func5
    (ChangeSpec.witness_shaped (enc := enc) (C := Tryz.checked) (os := os) (X := fun w _ => laidMetH Tryz.prog [("nostos/ops.words", Rows.laid_nostos_ops_words)] w) false (World.doorLaid Tryz.prog 14 os) #[.slice none 0 0] 8 rfl (World.shaped_of_RefB (by kernel_rfl) (by kernel_rfl)) (by kernel_rfl) (by kernel_rfl) (by kernel_rfl) (door_met os _)) ?_
  intro W base args ds gs before hval0 hW _ _ hL0 _
  have hval : ∀ (j : Nat) t v, Tryz.f5.params[j]? = some t → args[j]? = some v → Value.okWide Tryz.prog W .any base t v := hval0
  have hW' := hW
  obtain ⟨p, q, hA0, hV, rfl, hfz, hnd⟩ := hW
  have hA : DataW.TrodAll enc Tryz.prog W 0 (fun _ => true) true Tryz.f5.params.toList args.toList ds p := hA0
  rw [Tryz.params5] at hA hval
  obtain ⟨v0, vs0, d0, ds0, p0, q0, hargs, rfl, rfl, h0, r0⟩ := trodAll_cons hA
  obtain ⟨rfl, rfl, rfl⟩ := trodAll_nil r0
  obtain rfl : args = #[v0] := by cases args; simp_all
  obtain ⟨rfl, rfl⟩ := trodVars_none hV
  obtain ⟨a0, len0, cap0, rfl⟩ := okWide_slice Tryz.underlying22 (hval 0 22 v0 rfl rfl)
  have k0 := h0
  have lt0 : ∀ x ∈ p0, x.block < W.heap.size := by obtain ⟨m, hm⟩ := k0; exact DataW.trod_lt m _ _ _ hm
  obtain ⟨z0, w0⟩ : ∃ zs, IsRow .i64 W a0 len0 cap0 zs := by
    obtain ⟨fuel, hf⟩ := h0
    rcases open_ints Tryz.underlying22 Tryz.underlying3 (by kernel_rfl) hf with ⟨hcs, _⟩ | ⟨x, l, c, zs, hcs, _, hl, hm, hz, _, hcell, hwz⟩
    · simp [Value.cells] at hcs
      obtain ⟨rfl, rfl, rfl⟩ := hcs
      exact ⟨[], .inl ⟨rfl, rfl, rfl, rfl⟩⟩
    · simp [Value.cells] at hcs
      obtain ⟨rfl, rfl, rfl⟩ := hcs
      exact ⟨zs, .inr ⟨_, rfl, hl, hm, by simpa using hz, hcell, hwz⟩⟩
  clear hA0 hval0
  refine (walk a0 len0 cap0 z0 W (laid_of hL0) w0).mono fun e W' ⟨he, bel⟩ => ?_
  subst he
  exact ⟨_, rfl, _, _, _, [], _, [], hW', trodAll_mk1 (shut_bool Tryz.underlying4 _), (trodAll_cons_mk (Below.trod laidOut (by kernel_rfl) (of_decide_eq_true (by kernel_rfl)) k0 bel lt0) trodAll_mk0), rfl, bel.frame _, fun h => by cases h⟩

theorem over : Rows.aluMovesRow.holds Tryz.pinned (OpenSpec.ofChange Rows.aluMovesSpec) :=
  OpenClaim.holds_of_wide 5 Tryz.f5 rfl rfl rfl rfl rfl rfl rfl ⟨rfl, rfl, rfl, rfl, rfl⟩ rfl rfl rfl rfl rfl (by kernel_rfl) Tryz.func5 (by kernel_rfl)
    (of_decide_eq_true (by kernel_rfl)) (by unfold Func.isWrapper; first | (rw [if_pos (by decide +kernel)]; kernel_rfl) | (rw [if_neg (by decide +kernel)]; exact ⟨rfl, rfl⟩))
    (fun os started H enc _ => lifted os started H enc)

/-- the statement -/
theorem proved : Rows.AluMovesCardSaid := 
  Claim7.holds_tied_plain_at .later [] [.data] true (true, "51d1dfcc53ab65408596c144351444e992a538203f22ca8493db12b8c546ad23") true
    over (fun _ h => by cases h) (by kernel_rfl) (fun _ h => by cases h) aluMoves_row_tie rfl ⟨rfl, rfl⟩ (by kernel_rfl) rfl
    (fun f fn hf hfn => by
      obtain rfl : f = 5 := Option.some.inj ((show Tryz.prog.funcNamed "nostos/nostoslaw09.AluMoves" = some 5 by kernel_rfl).symm.trans hf) |>.symm
      obtain rfl : fn = Tryz.f5 := (Option.some.inj (Tryz.func5.symm.trans hfn)).symm
      exact ⟨by kernel_rfl, fun j t ht => by
        rw [Tryz.params5] at ht
        have hm : t ∈ [22] := by simpa using Array.mem_of_getElem? ht
        have hall : ([22].all fun u => !Tryz.prog.wantsStandIn u) = true := by kernel_rfl
        exact (show Tryz.prog.wantsStandIn t = false by simpa using List.all_eq_true.1 hall t hm)⟩)
    (by kernel_rfl)
#print axioms proved
end Go.Proofs.YtobijdfnafnodaaGreatDoor.aluMoves
