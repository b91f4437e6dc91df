/- FlowSettles: for every input the law returns true, and each argument reads behind the call as it read before. Condition: the listed package-level variables (nostos/ops.words) start as the program's own text lays them, and the card ties that to the text. -/
import Derived.Test.YtcjbfokindoicaaDoorRows
import Derived.WalkKit
import Derived.ProofKit
import Derived.OpenShut
import Derived.ShutString
import Derived.ChangeOld
import Derived.Below
import Derived.Test.YtcjbfokindoicaaDoorTie
import Derived.Test.YtcjbfokindoicaaDoorCards
import Derived.Test.YtcjbfokindoicaaDoorBelow
import Derived.Test.YtcjbfokindoicaaDoorFloSet
import Derived.SevenTiedAt
import Derived.LaidMore
import Derived.Stop.Joined
namespace Go.Proofs.YtcjbfokindoicaaDoor.flowSettles
open Go.ChangeShapes Go.WideShapes Go.ChangeAt Go.RowKit
open Go.ChangeMaps (open_string shut_string)
set_option linter.unusedVariables false

theorem own : ownKnob Tryd.prog.godebug = none := by kernel_rfl
theorem laidOut : laidOutB Tryd.prog = true := by kernel_rfl

/-! ### the walk: the Go text returns true -/
set_option maxRecDepth 100000 in
set_option maxHeartbeats 4000000 in
theorem walk (a0 : Int) (a1 : Int) (w : World) (hL : Laid w) (w0 : (Lit.int .u8 a0).wf = true) (w1 : (Lit.int .u8 a1).wf = true) :
    Calls Tryd.prog 6 #[.int .u8 a0, .int .u8 a1] w fun e w' => e = .returned (.bool true) ∧ Below w.heap.size w w' := by
  have ha0 := bd_u8 w0
  have ha1 := bd_u8 w1
  obtain ⟨j, hj⟩ : ∃ j : Nat, Int.tmod a0 8 = (j : Int) := ⟨(Int.tmod a0 8).toNat, by have := Int.tmod_nonneg 8 ha0.1; omega⟩
  have hj7 : j ≤ 7 := by
    have h2 := Int.tmod_lt_of_pos a0 (show (0 : Int) < 8 by decide)
    omega
  obtain ⟨r, hr⟩ : ∃ r, Int.tmod a1 10 = r := ⟨_, rfl⟩
  have hr0 : 0 ≤ r ∧ r ≤ 9 := by
    have h1 := Int.tmod_nonneg 10 ha1.1
    have h2 := Int.tmod_lt_of_pos a1 (show (0 : Int) < 10 by decide)
    omega
  obtain ⟨f, hf⟩ : ∃ f : Nat, 8 * r = (f : Int) := ⟨(8 * r).toNat, by omega⟩
  have hf2 : f ≤ 72 ∧ f % 8 = 0 := by omega
  obtain ⟨s, t, ex, ey, c1, c2, c3, ls, lt, hs, ht, oks, okt⟩ := settles j f hj7 hf2.2 hf2.1
  obtain ⟨Zb, hZ, mk⟩ := aw_make 400 400 rfl (by decide)
  replace hZ := Lib.hid hZ
  have hA := Lib.hid (faw_any w hL)
  have hL1 := Lib.hid hL
  have hLs := Lib.hid (And.intro ex ey)
  have hoks := Lib.hid oks
  have hokt := Lib.hid okt
  have hC1 := Lib.hid c1
  have hC2 := Lib.hid c2
  have hC3 := Lib.hid c3
  have hfi : (0 : Int) ≤ (f : Int) ∧ (f : Int) ≤ 72 := by omega
  have h64a := Lib.hid (show On.C64 ((f : Int) + 8) by unfold On.C64; omega)
  have h64c := Lib.hid (show On.C64 (t.here - 8) by unfold On.C64; omega)
  have hji : (0 : Int) ≤ (j : Int) ∧ (j : Int) ≤ 7 := by omega
  have hf3 := Lib.hid hf2
  have hj8 := Lib.hid hj7
  clear hL w0 w1 ex ey oks okt c1 c2 c3 ls lt hj7 hf2
  go_enter Tryd.func6, Tryd.ntmps6
  go_wp2_with (go_at_call 8; (with_reducible refine hA.out.mono ?_); rintro e w1 ⟨rfl, hb1⟩; replace hb1 := Lib.hid hb1)
  go_loopw [7, 8] (fun mo i wr => ∃ (k : Nat) (ma : Option Addr) (mn mc : Nat), k ≤ j ∧ i = .int .i64 (k : Int) ∧ mo = .slice ma mn mc ∧ Hid (mn = 2 * k) ∧ Hid (On.Oz wr w1.heap.size 9 1 ma mn mc (strs (moreL k))) ∧ Hid (Below w1.heap.size w1 wr)) (fun _ i _ => j - (intOf i).toNat)
  case atStart => exact ⟨0, none, 0, 0, Nat.zero_le _, rfl, rfl, Lib.hid rfl, Lib.hid (On.Oz.nil _ _ _ _), Lib.hid (Below.refl _ _)⟩
  case round =>
    obtain ⟨k, ma, mn, mc, hk, rfl, rfl, hmn, hO, hB⟩ := hrel
    by_cases h1 : k < j
    · have hBA := bl_alloc hB.out (.cells #[.string (bst 101), .string (bst 102)] 9)
      have o3 := strs_new wr wr.heap.size (Nat.le_refl _) [101, 102] #[.string (bst 101), .string (bst 102)] 2 rfl rfl (by decide)
      obtain ⟨a', cap', w2, hrun, hO2, hb2, _, _⟩ := strs_app (hO.out.alloc (.cells #[.string (bst 101), .string (bst 102)] 9)) o3.sz (N := mn + 2) rfl (by have := hmn.out; have := hj8.out; omega) hBA.size
      have hO3 : Hid (On.Oz w2 w1.heap.size 9 1 a' (mn + 2) cap' (strs (moreL (k + 1)))) := Lib.hid hO2
      have hB3 := Lib.hid (hBA.trans hb2)
      have hmn3 : Hid (mn + 2 = 2 * (k + 1)) := Lib.hid (by have := hmn.out; omega)
      replace hrun : (Builtin.append_ #[36, 36] 36 #[.slice ma mn mc, .slice (some ⟨wr.heap.size, 0, none⟩) 2 2]).run Tryd.prog (wr.alloc (.cells #[.string ⟨#[66, 69, 71, 73, 78]⟩, .string ⟨#[65, 71, 65, 73, 78]⟩] 9)) = .ok (.slice a' (mn + 2) cap') w2 := hrun
      replace hrun := Lib.hid hrun
      clear hBA o3 hO2 hb2
      go_wp2_with (at_builtin; refine On.wpList_append_run rfl (.tmp 33) (.tmp 34) 36 rfl _ _ _ rfl rfl hrun.out ?_)
      exact ⟨⟨k + 1, a', mn + 2, cap', by omega, by go_num, rfl, hmn3, hO3, hB3⟩, by simp only [intOf]; omega⟩
    · obtain rfl : j = k := by omega
      obtain ⟨xa1, xc1, v2, xa, xc, v3, rx1, rx2, zx, bx⟩ := two_apps (s0 := ⟨#[73, 70]⟩) (s1 := ⟨#[84, 72, 69, 78]⟩) (N1 := mn + 1) (N2 := mn + 2) 98 100 rfl rfl hO.out.sz (by have := hmn.out; have := hj8.out; omega) (by omega) (by omega)
      obtain ⟨ya1, yc1, v4, ya, yc, v5, ry1, ry2, zy, by_⟩ := two_apps (s0 := ⟨#[68, 79]⟩) (s1 := ⟨#[76, 79, 79, 80]⟩) (N1 := mn + 1) (N2 := mn + 2) 106 107 rfl rfl (hO.out.sz.below bx) (by have := hmn.out; have := hj8.out; omega) (by omega) (by omega)
      have hb5 : Hid (Below w.heap.size w v5) := Lib.hid (since2 (since2 (since2 hb1.out hB.out) bx) by_)
      have hwx : ∀ k ∈ [98] ++ moreL j ++ [100], okW k := fun k hk => by
        simp only [List.mem_append, List.mem_singleton] at hk
        rcases hk with (rfl | hk) | rfl
        · unfold okW; omega
        · exact moreL_ok _ k hk
        · unfold okW; omega
      have hwy : ∀ k ∈ [106] ++ moreL j ++ [107], okW k := fun k hk => by
        simp only [List.mem_append, List.mem_singleton] at hk
        rcases hk with (rfl | hk) | rfl
        · unfold okW; omega
        · exact moreL_ok _ k hk
        · unfold okW; omega
      have hX := Lib.hid (set_run hZ hL1.out hb5.out (zx.below by_) (by have := hmn.out; have := hj8.out; omega) hwx hf3.out.1 hLs.out.1 (Below.refl _ _) rfl)
      have hY := Lib.hid (fun (W : World) (b : Nat) (hW : Below v5.heap.size v5 W) (hb : W.heap.size = b) => set_run hZ hL1.out hb5.out zy (by have := hmn.out; have := hj8.out; omega) hwy hf3.out.1 hLs.out.2 hW hb)
      replace rx1 := Lib.hid rx1
      replace rx2 := Lib.hid rx2
      replace ry1 := Lib.hid ry1
      replace ry2 := Lib.hid ry2
      clear zx bx zy by_ hwx hwy hO hB
      go_wp2_with (first
        | (at_builtin; refine On.wpList_append_run rfl (.tmp 36) (.tmp 37) 36 rfl _ _ _ rfl rfl rx1.out ?_)
        | (at_builtin; refine On.wpList_append_run rfl (.tmp 38) (.tmp 39) 36 rfl _ _ _ rfl rfl rx2.out ?_)
        | (at_builtin; refine On.wpList_append_run rfl (.tmp 41) (.tmp 42) 36 rfl _ _ _ rfl rfl ry1.out ?_)
        | (at_builtin; refine On.wpList_append_run rfl (.tmp 43) (.tmp 44) 36 rfl _ _ _ rfl rfl ry2.out ?_)
        | (go_at_call 13
           (with_reducible refine hX.out.mono ?_)
           rintro e w6 ⟨Z1, rfl, hz1, hs1, hb6⟩
           have hW6 := Lib.hid (new_row (Z := Z1) hb6)
           have hY6 := Lib.hid (hY.out _ (w6.heap.size + 1) hW6.out (sz_new w6 Z1))
           have hH1 := Lib.hid (zis_held hz1.out)
           have q1 := hs1.out.1
           have kst1 := cells_at (ds := Z1) (Bx.new w6 28 zst) hs1.out.1.symm hs1.out.2)
        | (go_at_call 13
           (with_reducible refine hY6.out.mono ?_)
           rintro e w7 ⟨Z2, rfl, hz2, hs2, hb7⟩
           have hW7 := new_row (Z := Z2) hb7
           have hH2 := Lib.hid (zis_held hz2.out)
           obtain ⟨xa7, xn7, xc7, d0, d8, dC⟩ := held_cell (hH1.out.below hW7) hoks.out
           obtain ⟨ya7, yn7, yc7, f0, f8, fC⟩ := held_cell hH2.out hokt.out
           obtain ⟨qa, hCa⟩ := dC.out ((f : Int) + 8) s.here h64a.out hC1.out
           obtain ⟨qb, hCb⟩ := fC.out ((f : Int) + 8) t.here h64a.out hC2.out
           obtain ⟨qc, hCc⟩ := fC.out (t.here - 8) ((f : Int) + 16) h64c.out hC3.out
           replace hCa := Lib.hid hCa
           replace hCb := Lib.hid hCb
           replace hCc := Lib.hid hCc
           have hend := Lib.hid (since2 hb5.out (since2 hW6.out hW7))
           have q2 := hs2.out.1
           have kst2 := cells_at (ds := Z2) (Bx.new w7 28 zst) hs2.out.1.symm hs2.out.2)
        | (go_at_call 14; (with_reducible refine hCa.out.mono ?_); rintro e w8 ⟨rfl, rfl⟩)
        | (go_at_call 14; (with_reducible refine hCb.out.mono ?_); rintro e w8 ⟨rfl, rfl⟩)
        | (go_at_call 14; (with_reducible refine hCc.out.mono ?_); rintro e w8 ⟨rfl, rfl⟩))
      go_ret
      exact ⟨rfl, hend.out⟩

/-! ### the door's own heap meets the condition -/
theorem door_met (os : Os) (args : Array Value) : laidMetH Tryd.prog [("nostos/ops.words", Rows.laid_nostos_ops_words)] ((World.doorLaid Tryd.prog 14 os).forCall (fun _ _ => 0) ⟨#[], args, []⟩).memory :=
  laidMetH_of_parts3 (fuel := 8) (laidMet_of_run' 8 (by kernel_rfl) (by kernel_rfl)) (by kernel_rfl) (by kernel_rfl)

/-! ### the row's step -/
set_option maxRecDepth 100000 in
theorem lifted (os : Os) (started : os.Started) (H : Type) (enc : TypeId × Value → H) :
    ReturnsInHanded {} Tryd.checked os 6 .any (fun w args => (Rows.flowSettlesSpec.pre enc Tryd.prog Tryd.f6 [] false w args ∧ laidMetH Tryd.prog [("nostos/ops.words", Rows.laid_nostos_ops_words)] w) ∧ sizedMet enc Tryd.prog Tryd.f6 (OpenSpec.ofChange Rows.flowSettlesSpec) false w args)
      (Rows.flowSettlesSpec.post enc Tryd.prog Tryd.f6 false true false false) := by
  refine returnsInHanded_of_change_and (C := Tryd.checked) (X := fun w _ => laidMetH Tryd.prog [("nostos/ops.words", Rows.laid_nostos_ops_words)] w) (fun _ _ _ hh h => h.of_heap hh) own started (by kernel_rfl) Tryd.func6
    (ChangeSpec.witness_shaped (enc := enc) (C := Tryd.checked) (os := os) (X := fun w _ => laidMetH Tryd.prog [("nostos/ops.words", Rows.laid_nostos_ops_words)] w) false (World.doorLaid Tryd.prog 14 os) #[.int .u8 0, .int .u8 0] 8 rfl (World.shaped_of_RefB (by kernel_rfl) (by kernel_rfl)) (by kernel_rfl) (by kernel_rfl) (by kernel_rfl) (door_met os _)) ?_
  intro W base args ds gs before hval0 hW _ _ hL0 _
  have hval : ∀ (j : Nat) t v, Tryd.f6.params[j]? = some t → args[j]? = some v → Value.okWide Tryd.prog W .any base t v := hval0
  have hW' := hW
  obtain ⟨p, q, hA0, hV, rfl, hfz, hnd⟩ := hW
  have hA : DataW.TrodAll enc Tryd.prog W 0 (fun _ => true) true Tryd.f6.params.toList args.toList ds p := hA0
  rw [Tryd.params6] at hA hval
  obtain ⟨v0, vs0, d0, ds0, p0, q0, hargs, rfl, rfl, h0, r0⟩ := trodAll_cons hA
  obtain ⟨v1, vs1, d1, ds1, p1, q1, rfl, rfl, rfl, h1, r1⟩ := trodAll_cons r0
  obtain ⟨rfl, rfl, rfl⟩ := trodAll_nil r1
  obtain rfl : args = #[v0, v1] := by cases args; simp_all
  obtain ⟨rfl, rfl⟩ := trodVars_none hV
  obtain ⟨a0, rfl, rfl, rfl, w0⟩ := open_int Tryd.underlying5 (hval 0 5 v0 rfl rfl) h0
  obtain ⟨a1, rfl, rfl, rfl, w1⟩ := open_int Tryd.underlying5 (hval 1 5 v1 rfl rfl) h1
  clear hA0 hval0
  refine (walk a0 a1 W (laid_of hL0) w0 w1).mono fun e W' ⟨he, bel⟩ => ?_
  subst he
  exact ⟨_, rfl, _, _, _, [], _, [], hW', trodAll_mk1 (shut_bool Tryd.underlying4 _), (trodAll_cons_mk (shut_int Tryd.underlying5 w0) (trodAll_cons_mk (shut_int Tryd.underlying5 w1) trodAll_mk0)), rfl, bel.frame _, fun h => by cases h⟩

theorem over : Rows.flowSettlesRow.holds Tryd.pinned (OpenSpec.ofChange Rows.flowSettlesSpec) :=
  OpenClaim.holds_of_wide 6 Tryd.f6 rfl rfl rfl rfl rfl rfl rfl ⟨rfl, rfl, rfl, rfl, rfl⟩ rfl rfl rfl rfl rfl (by kernel_rfl) Tryd.func6 (by kernel_rfl)
    (of_decide_eq_true (by kernel_rfl)) (by unfold Func.isWrapper; first | (rw [if_pos (by decide +kernel)]; kernel_rfl) | (rw [if_neg (by decide +kernel)]; exact ⟨rfl, rfl⟩))
    (fun os started H enc _ => lifted os started H enc)

/-- the statement -/
theorem proved : Rows.FlowSettlesCardSaid := 
  Claim7.holds_tied_plain_at .later [] [.data] true (true, "f3f2b75b8fc397f3d2f26ea97f6eb4f70b7f640fd2b20bf7410f9139b8af2ab6") false
    over (fun _ h => by cases h) (by kernel_rfl) (fun _ h => by cases h) flowSettles_row_tie rfl ⟨rfl, rfl⟩ (by kernel_rfl) rfl
    (fun f fn hf hfn => by
      obtain rfl : f = 6 := Option.some.inj ((show Tryd.prog.funcNamed "nostos/nostoslaw11.FlowSettles" = some 6 by kernel_rfl).symm.trans hf) |>.symm
      obtain rfl : fn = Tryd.f6 := (Option.some.inj (Tryd.func6.symm.trans hfn)).symm
      exact ⟨by kernel_rfl, fun j t ht => by
        rw [Tryd.params6] at ht
        have hm : t ∈ [5, 5] := by simpa using Array.mem_of_getElem? ht
        have hall : ([5, 5].all fun u => !Tryd.prog.wantsStandIn u) = true := by kernel_rfl
        exact (show Tryd.prog.wantsStandIn t = false by simpa using List.all_eq_true.1 hall t hm)⟩)
    (by kernel_rfl)
#print axioms proved
end Go.Proofs.YtcjbfokindoicaaDoor.flowSettles
