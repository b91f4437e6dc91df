/- AsmBack: for every input the law returns true, and each argument reads behind the call as it read before. Condition: the listed package-level variables (nostos/ops.words) start as the program's own text lays them, and the card ties that to the text. -/
import Derived.Test.YtkjokgjjpoocgaaDoorRows
import Derived.WalkKit
import Derived.ProofKit
import Derived.OpenShut
import Derived.ShutString
import Derived.ChangeOld
import Derived.Below
import Derived.Test.YtkjokgjjpoocgaaDoorTie
import Derived.Test.YtkjokgjjpoocgaaDoorCards
import Derived.Test.YtkjokgjjpoocgaaDoorBelow
import Derived.Test.YtkjokgjjpoocgaaDoorAsmRun
import Derived.SevenTiedAt
import Derived.LaidMore
import Derived.Stop.Joined
namespace Go.Proofs.YtkjokgjjpoocgaaDoor.asmBack
open Go.ChangeShapes Go.WideShapes Go.ChangeAt Go.RowKit
open Go.ChangeMaps (open_string shut_string)
set_option linter.unusedVariables false

theorem own : ownKnob Tryd.prog.godebug = none := by kernel_rfl
theorem laidOut : laidOutB Tryd.prog = true := by kernel_rfl

/-- a slice of integers that came in: nil, or a row of cap cells, the numbers zs, each fitting its kind -/
def IsRow (k : IntKind) (w : World) (a : Option Addr) (len cap : Nat) (zs : List Int) : Prop :=
  (a = none ∧ len = 0 ∧ cap = 0 ∧ zs = []) ∨
  ∃ x, a = some x ∧ len ≤ cap ∧ cap ≤ maxLen ∧ zs.length = cap ∧ (∀ i, i < zs.length → w.cell? (x.add i) = some (.int k (zs.getD i 0))) ∧ ∀ n ∈ zs, (Lit.int k n).wf = true

/-! ### the walk: the Go text returns true -/
/-- what came in, as a list of integers -/
theorem isRow_fl {w : World} {a : Option Addr} {len cap : Nat} {zs : List Int} (h : IsRow .i64 w a len cap zs) : On.Fl (On.one .i64) 1 w ⟨a, len, cap⟩ (zs.take len) ∧ ∀ z ∈ zs, On.C64 z := by
  rcases h with ⟨rfl, rfl, rfl, rfl⟩ | ⟨x, rfl, hl, hm, hz, hcell, hwz⟩
  · exact ⟨On.Fl.zero _ _ w, fun z hz => by cases hz⟩
  · refine ⟨⟨?_, hl, hm, fun h => (by cases h), fun hn => ?_⟩, fun z hz => bd_i64 (hwz z hz)⟩
    · rw [one_flat]; simp; omega
    · obtain ⟨b, o, s⟩ := x
      dsimp only at hn
      obtain rfl : s = none := by simpa [Addr.add] using World.cell?_spot (hcell 0 (by omega))
      refine ⟨b, o, rfl, fun i v hi => ?_⟩
      rw [one_flat, List.getElem?_map] at hi
      have hil : i < len ∧ i < zs.length := by
        rcases Nat.lt_or_ge i (zs.take len).length with h | h
        · simp at h; omega
        · rw [List.getElem?_eq_none h] at hi; cases hi
      have := hcell i hil.2
      rw [add_plain] at this
      rw [this, ← hi, List.getElem?_take_of_lt hil.1]
      simp [List.getD, hil.2]

set_option maxRecDepth 100000 in
set_option maxHeartbeats 4000000 in
theorem walk (a0 : Int) (a1 : Option Addr) (len1 cap1 : Nat) (z1 : List Int) (w : World) (hL : Laid w) (w0 : (Lit.int .u8 a0).wf = true) (w1 : IsRow .i64 w a1 len1 cap1 z1) :
    Calls Tryd.prog 6 #[.int .u8 a0, .slice a1 len1 cap1] w fun e w' => e = .returned (.bool true) ∧ Below w.heap.size w w' := by
  have ha0 := bd_u8 w0
  obtain ⟨hv, hvz⟩ := isRow_fl w1
  have hvk : ∀ z ∈ z1.take len1, On.C64 z := fun z hz => hvz z (List.mem_of_mem_take hz)
  have hvl : (z1.take len1).length = len1 := On.Fl.len hv (fun _ => rfl) (by decide)
  have hvb := hv.bd
  dsimp only at hvb
  have hA := awake_any w hL
  clear w0 w1 hvz hL
  generalize z1.take len1 = vs at *
  by_cases hl : 20 < len1
  · clear hvk hv hvl
    go_enter Tryd.func6, Tryd.ntmps6
    go_wp2_with (go_at_call 8; (with_reducible refine hA.mono ?_); rintro e w1 ⟨rfl, hb1⟩)
    go_ret
    exact ⟨rfl, hb1⟩
  obtain ⟨P, hP, hP8, hPl⟩ : ∃ P : Nat, 8 * (a0 % 20) = (P : Int) ∧ P % 8 = 0 ∧ P ≤ 152 := ⟨(8 * (a0 % 20)).toNat, by omega, by omega, by omega⟩
  obtain ⟨S, hS, hR⟩ := emit_run vs (fresh 400 (P : Int) 3) P rfl hP8 (by show _ ≤ (List.replicate 400 (0 : Int)).length; rw [List.length_replicate]; omega) (fun x hx => by cases hx) hvk
  have hok := emitC_ok vs (fresh 400 (P : Int) 3) (aw_ok 400 (P : Int) 3 (by unfold On.C64; omega) (by unfold On.C64; omega)) (by show (List.replicate 400 (0 : Int)).length ≤ _; rw [List.length_replicate]; omega)
  rw [hS] at hok
  have hml : S.mem.length = 400 := by rw [hR.len]; exact List.length_replicate ..
  obtain ⟨Z, hZ, m1⟩ := aw_make 400 400 rfl (by decide)
  have hE := Lib.hid (fun (V : World) (hV : Below w.heap.size w V) => em_lit (V.alloc (.cells Z 5)) ⟨some ⟨V.heap.size, 0, none⟩, 400, 400⟩ ⟨a1, len1, cap1⟩ 400 (P : Int) 3 vs (aw_row V 400 (by decide) Z hZ) (by decide) (by unfold On.C64; omega) (by unfold On.C64; omega) ((hv.below hV).below ((Below.refl _ _).alloc (Nat.le_refl _) _)) hvk (by omega))
  rw [hS] at hE
  dsimp only at hE
  have r1 := Lib.hid hR
  have r2 := Lib.hid hvl
  have r3 := Lib.hid hml
  have r4 := Lib.hid hok
  have r5 := Lib.hid hv
  have r6 := Lib.hid hS
  clear hR hvl hml hok hv hS hvk hZ
  go_enter Tryd.func6, Tryd.ntmps6
  go_wp2_with (first
    | (go_at_call 8; (with_reducible refine hA.mono ?_); rintro e w1 ⟨rfl, hb1⟩)
    | (go_at_call 12
       (with_reducible refine (hE.out _ hb1).mono ?_)
       rintro e w3 ⟨S1, rfl, hz3, hx3⟩
       have hst := cells_at (ds := S1) (Bx.new w3 28 zst) hz3.out.stz.1.symm hz3.out.stz.2
       have hz1 := hz3.out.stz.1
       have ha1 : Below w1.heap.size w1 (w1.alloc (.cells Z 5)) := (Below.refl _ _).alloc (Nat.le_refl _) _
       have hb2 := Lib.hid (since hb1 (since ha1 (aw_up1 hz3.out.stz hx3)))
       have hv1 := Lib.hid (Var.new hz3.out)
       clear ha1))
  generalize hg : w3.heap.size = g at *
  generalize hw : (w3.alloc (.cells zst 28)).setRow g S1 = W at *
  have hw3 := hx3.size
  clear hst hz1 hz3 hx3 hE hw
  obtain ⟨hB, h', rfl, hSt⟩ := hv1.out.is
  obtain ⟨⟨ma, mn, mc⟩, xd, xr, xc, xw, ⟨sa, sn, sc⟩, xo⟩ := h'
  have k0 := hB.cell 0 (v := .slice ma mn mc) rfl
  have k5 := hB.cell 5 (v := .slice sa sn sc) rfl
  have k8 := hB.cell 8 (v := .int .i64 S.here) rfl
  have hmn : S.mem.length = mn := On.Fl.len hSt.mem (fun _ => rfl) (by decide)
  have hsn : S.spots.length = sn := On.Fl.len hSt.spots On.spc_len (by decide)
  have hspn : S.spots = sps (P : Int) 3 vs.length := by rw [r1.out.spots]; rfl
  have hsl : sn = len1 := by rw [← hsn, hspn, sps_len]; exact r2.out
  have hhe : S.here = (P : Int) + 8 * (len1 : Int) := by rw [r1.out.here, r2.out]; omega
  rw [hhe] at k8
  have hm400 : mn = 400 := by rw [← hmn]; exact r3.out
  have hCl : Hid (∀ k : Nat, k < len1 → Calls Tryd.prog 21 #[.slice ma mn mc, .int .i64 ((P : Int) + 8 * (k : Int))] W fun e w' => e = .returned (.tuple #[.int .i64 (vs.getD k 0), .int .i64 0]) ∧ W = w') := Lib.hid fun k hk => by
    have h := Me.cell_any ma mn mc S.mem ((P : Int) + 8 * (k : Int)) W (mem_of hSt.mem r4.out.mem) (by omega)
    have ht : Me.tC mn ((P : Int) + 8 * (k : Int)) = 0 := Me.tC_ok (by omega) (by omega)
    have hc : Me.celI S.mem ((P : Int) + 8 * (k : Int)) = vs.getD k 0 := by
      unfold Me.celI
      rw [hmn, if_pos ht, show ((P : Int) + 8 * (k : Int)).toNat = P + 8 * k by omega]
      exact r1.out.new k (by have := r2.out; omega)
    rw [ht, hc] at h
    exact h
  have hvc : Hid (∀ k : Nat, k < len1 → ∃ b o, a1 = some ⟨b, o, none⟩ ∧ W.cell? ⟨b, o + k, none⟩ = some (.int .i64 (vs.getD k 0))) := Lib.hid fun k hk => ints_cell (r5.out.below hb2.out) (i := k) hk
  have hsc : Hid (∀ k : Nat, k < len1 → ∃ b o, sa = some ⟨b, o, none⟩ ∧ W.cell? ⟨b, o + k * 2, none⟩ = some (.int .i64 ((P : Int) + 8 * (k : Int))) ∧ W.cell? ⟨b, o + k * 2 + 1, none⟩ = some (.int .i64 3)) := Lib.hid fun k hk => by
    obtain ⟨b, o, q0, q1, q2⟩ := spots_cell hSt.spots (i := k) (by show k < sn; omega)
    rw [hspn, sps_get 3 vs.length (P : Int) k (by have := r2.out; omega)] at q1 q2
    exact ⟨b, o, q0, q1, q2⟩
  subst hsl
  clear hB hSt hv1 hmn hsn hspn hhe hg r1 r2 r3 r4 r5 r6 hm400
  go_loop [9] (fun i => ∃ k : Nat, k ≤ sn ∧ i = .int .i64 k) (fun i => sn - (intOf i).toNat)
  case atStart => exact ⟨0, Nat.zero_le _, rfl⟩
  case round =>
    obtain ⟨k, hk, rfl⟩ := hrel
    by_cases hk1 : k < sn
    · have c1 := Lib.hid (hCl.out k hk1)
      obtain ⟨b, o, rfl, d1⟩ := hvc.out k hk1
      obtain ⟨b2, o2, rfl, d2, d3⟩ := hsc.out k hk1
      clear hCl hvc hsc
      generalize vs.getD k 0 = v at *
      go_wp2_with (go_at_call 21; (with_reducible refine c1.out.mono ?_); rintro e w4 ⟨rfl, rfl⟩)
      exact ⟨⟨k + 1, by omega, by go_num⟩, by simp only [intOf]; omega⟩
    · obtain rfl : sn = k := by omega
      go_wp2
      go_ret
      exact ⟨rfl, hb2.out⟩

/-! ### the door's own heap meets the condition -/
theorem door_met (os : Os) (args : Array Value) : laidMetH Tryd.prog [("nostos/ops.words", Rows.laid_nostos_ops_words)] ((World.doorLaid Tryd.prog 14 os).forCall (fun _ _ => 0) ⟨#[], args, []⟩).memory :=
  laidMetH_of_parts3 (fuel := 8) (laidMet_of_run' 8 (by kernel_rfl) (by kernel_rfl)) (by kernel_rfl) (by kernel_rfl)

/-! ### the row's step -/
set_option maxRecDepth 100000 in
theorem lifted (os : Os) (started : os.Started) (H : Type) (enc : TypeId × Value → H) :
    ReturnsInHanded {} Tryd.checked os 6 .any (fun w args => (Rows.asmBackSpec.pre enc Tryd.prog Tryd.f6 [] false w args ∧ laidMetH Tryd.prog [("nostos/ops.words", Rows.laid_nostos_ops_words)] w) ∧ sizedMet enc Tryd.prog Tryd.f6 (OpenSpec.ofChange Rows.asmBackSpec) false w args)
      (Rows.asmBackSpec.post enc Tryd.prog Tryd.f6 false true false false) := by
  refine returnsInHanded_of_change_and (C := Tryd.checked) (X := fun w _ => laidMetH Tryd.prog [("nostos/ops.words", Rows.laid_nostos_ops_words)] w) (fun _ _ _ hh h => h.of_heap hh) own started (by kernel_rfl) Tryd.func6
    (ChangeSpec.witness_shaped (enc := enc) (C := Tryd.checked) (os := os) (X := fun w _ => laidMetH Tryd.prog [("nostos/ops.words", Rows.laid_nostos_ops_words)] w) false (World.doorLaid Tryd.prog 14 os) #[.int .u8 0, .slice none 0 0] 8 rfl (World.shaped_of_RefB (by kernel_rfl) (by kernel_rfl)) (by kernel_rfl) (by kernel_rfl) (by kernel_rfl) (door_met os _)) ?_
  intro W base args ds gs before hval0 hW _ _ hL0 _
  have hval : ∀ (j : Nat) t v, Tryd.f6.params[j]? = some t → args[j]? = some v → Value.okWide Tryd.prog W .any base t v := hval0
  have hW' := hW
  obtain ⟨p, q, hA0, hV, rfl, hfz, hnd⟩ := hW
  have hA : DataW.TrodAll enc Tryd.prog W 0 (fun _ => true) true Tryd.f6.params.toList args.toList ds p := hA0
  rw [Tryd.params6] at hA hval
  obtain ⟨v0, vs0, d0, ds0, p0, q0, hargs, rfl, rfl, h0, r0⟩ := trodAll_cons hA
  obtain ⟨v1, vs1, d1, ds1, p1, q1, rfl, rfl, rfl, h1, r1⟩ := trodAll_cons r0
  obtain ⟨rfl, rfl, rfl⟩ := trodAll_nil r1
  obtain rfl : args = #[v0, v1] := by cases args; simp_all
  obtain ⟨rfl, rfl⟩ := trodVars_none hV
  obtain ⟨a0, rfl, rfl, rfl, w0⟩ := open_int Tryd.underlying5 (hval 0 5 v0 rfl rfl) h0
  obtain ⟨a1, len1, cap1, rfl⟩ := okWide_slice Tryd.underlying23 (hval 1 23 v1 rfl rfl)
  have k1 := h1
  have lt1 : ∀ x ∈ p1, x.block < W.heap.size := by obtain ⟨m, hm⟩ := k1; exact DataW.trod_lt m _ _ _ hm
  obtain ⟨z1, w1⟩ : ∃ zs, IsRow .i64 W a1 len1 cap1 zs := by
    obtain ⟨fuel, hf⟩ := h1
    rcases open_ints Tryd.underlying23 Tryd.underlying3 (by kernel_rfl) hf with ⟨hcs, _⟩ | ⟨x, l, c, zs, hcs, _, hl, hm, hz, _, hcell, hwz⟩
    · simp [Value.cells] at hcs
      obtain ⟨rfl, rfl, rfl⟩ := hcs
      exact ⟨[], .inl ⟨rfl, rfl, rfl, rfl⟩⟩
    · simp [Value.cells] at hcs
      obtain ⟨rfl, rfl, rfl⟩ := hcs
      exact ⟨zs, .inr ⟨_, rfl, hl, hm, by simpa using hz, hcell, hwz⟩⟩
  clear hA0 hval0
  refine (walk a0 a1 len1 cap1 z1 W (laid_of hL0) w0 w1).mono fun e W' ⟨he, bel⟩ => ?_
  subst he
  exact ⟨_, rfl, _, _, _, [], _, [], hW', trodAll_mk1 (shut_bool Tryd.underlying4 _), (trodAll_cons_mk (shut_int Tryd.underlying5 w0) (trodAll_cons_mk (Below.trod laidOut (by kernel_rfl) (of_decide_eq_true (by kernel_rfl)) k1 bel lt1) trodAll_mk0)), rfl, bel.frame _, fun h => by cases h⟩

theorem over : Rows.asmBackRow.holds Tryd.pinned (OpenSpec.ofChange Rows.asmBackSpec) :=
  OpenClaim.holds_of_wide 6 Tryd.f6 rfl rfl rfl rfl rfl rfl rfl ⟨rfl, rfl, rfl, rfl, rfl⟩ rfl rfl rfl rfl rfl (by kernel_rfl) Tryd.func6 (by kernel_rfl)
    (of_decide_eq_true (by kernel_rfl)) (by unfold Func.isWrapper; first | (rw [if_pos (by decide +kernel)]; kernel_rfl) | (rw [if_neg (by decide +kernel)]; exact ⟨rfl, rfl⟩))
    (fun os started H enc _ => lifted os started H enc)

/-- the statement -/
theorem proved : Rows.AsmBackCardSaid := 
  Claim7.holds_tied_plain_at .later [] [.data] true (true, "961e839cc12026cbaef8b63ef80415f98936f9fe6d737958e1b5d0b4db23427f") false
    over (fun _ h => by cases h) (by kernel_rfl) (fun _ h => by cases h) asmBack_row_tie rfl ⟨rfl, rfl⟩ (by kernel_rfl) rfl
    (fun f fn hf hfn => by
      obtain rfl : f = 6 := Option.some.inj ((show Tryd.prog.funcNamed "nostos/nostoslaw10.AsmBack" = some 6 by kernel_rfl).symm.trans hf) |>.symm
      obtain rfl : fn = Tryd.f6 := (Option.some.inj (Tryd.func6.symm.trans hfn)).symm
      exact ⟨by kernel_rfl, fun j t ht => by
        rw [Tryd.params6] at ht
        have hm : t ∈ [5, 23] := by simpa using Array.mem_of_getElem? ht
        have hall : ([5, 23].all fun u => !Tryd.prog.wantsStandIn u) = true := by kernel_rfl
        exact (show Tryd.prog.wantsStandIn t = false by simpa using List.all_eq_true.1 hall t hm)⟩)
    (by kernel_rfl)
#print axioms proved
end Go.Proofs.YtkjokgjjpoocgaaDoor.asmBack
