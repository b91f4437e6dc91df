/- FlowMisses: for every input the law returns true, and each argument reads behind the call as it read before. Condition: the listed package-level variables (nostos/ops.words) start as the program's own text lays them, and the card ties that to the text. -/
import Derived.Test.YtcjbfokindoicaaDoorRows
import Derived.WalkKit
import Derived.ProofKit
import Derived.OpenShut
import Derived.ShutString
import Derived.ChangeOld
import Derived.Below
import Derived.Test.YtcjbfokindoicaaDoorTie
import Derived.Test.YtcjbfokindoicaaDoorCards
import Derived.Test.YtcjbfokindoicaaDoorBelow
import Derived.Test.YtcjbfokindoicaaDoorFloMis
import Derived.Test.YtcjbfokindoicaaDoorFloMisA
import Derived.Test.YtcjbfokindoicaaDoorFloMisB
import Derived.Test.YtcjbfokindoicaaDoorFloMisC
import Derived.SevenTiedAt
import Derived.LaidMore
import Derived.Stop.Joined
namespace Go.Proofs.YtcjbfokindoicaaDoor.flowMisses
open Go.ChangeShapes Go.WideShapes Go.ChangeAt Go.RowKit
open Go.ChangeMaps (open_string shut_string)
set_option linter.unusedVariables false

theorem own : ownKnob Tryd.prog.godebug = none := by kernel_rfl
theorem laidOut : laidOutB Tryd.prog = true := by kernel_rfl

/-- a slice of integers that came in: nil, or a row of cap cells, the numbers zs, each fitting its kind -/
def IsRow (k : IntKind) (w : World) (a : Option Addr) (len cap : Nat) (zs : List Int) : Prop :=
  (a = none ∧ len = 0 ∧ cap = 0 ∧ zs = []) ∨
  ∃ x, a = some x ∧ len ≤ cap ∧ cap ≤ maxLen ∧ zs.length = cap ∧ (∀ i, i < zs.length → w.cell? (x.add i) = some (.int k (zs.getD i 0))) ∧ ∀ n ∈ zs, (Lit.int k n).wf = true

/-! ### the walk: the Go text returns true -/
/-- what came in, as a list of integers -/
theorem isRow_fl {w : World} {a : Option Addr} {len cap : Nat} {zs : List Int} (h : IsRow .i64 w a len cap zs) : On.Fl (On.one .i64) 1 w ⟨a, len, cap⟩ (zs.take len) ∧ ∀ z ∈ zs, On.C64 z := by
  rcases h with ⟨rfl, rfl, rfl, rfl⟩ | ⟨x, rfl, hl, hm, hz, hcell, hwz⟩
  · exact ⟨On.Fl.zero _ _ w, fun z hz => by cases hz⟩
  · refine ⟨⟨?_, hl, hm, fun h => (by cases h), fun hn => ?_⟩, fun z hz => bd_i64 (hwz z hz)⟩
    · rw [one_flat]; simp; omega
    · obtain ⟨b, o, s⟩ := x
      dsimp only at hn
      obtain rfl : s = none := by simpa [Addr.add] using World.cell?_spot (hcell 0 (by omega))
      refine ⟨b, o, rfl, fun i v hi => ?_⟩
      rw [one_flat, List.getElem?_map] at hi
      have hil : i < len ∧ i < zs.length := by
        rcases Nat.lt_or_ge i (zs.take len).length with h | h
        · simp at h; omega
        · rw [List.getElem?_eq_none h] at hi; cases hi
      have := hcell i hil.2
      rw [add_plain] at this
      rw [this, ← hi, List.getElem?_take_of_lt hil.1]
      simp [List.getD, hil.2]

set_option maxRecDepth 100000 in
set_option maxHeartbeats 4000000 in
theorem walk (a0 : Option Addr) (len0 cap0 : Nat) (z0 : List Int) (a1 : Int) (w : World) (hL : Laid w) (w0 : IsRow .i64 w a0 len0 cap0 z0) (w1 : (Lit.int .u8 a1).wf = true) :
    Calls Tryd.prog 7 #[.slice a0 len0 cap0, .int .u8 a1] w fun e w' => e = .returned (.bool true) ∧ Below w.heap.size w w' := by
  have ha1 := bd_u8 w1
  obtain ⟨hv, hvz⟩ := isRow_fl w0
  have hvn : (z0.take len0).length = len0 := On.Fl.len hv (fun _ => rfl) (by decide)
  have hvc : ∀ z ∈ z0.take len0, On.C64 z := fun z hz => hvz z (List.mem_of_mem_take hz)
  have hbd := hv.bd
  dsimp only at hbd
  have hA := Lib.hid (faw_any w hL)
  by_cases hlen : len0 ≤ 200
  · obtain ⟨Zb, hZ, mk⟩ := aw_make 200 200 rfl (by decide)
    replace hZ := Lib.hid hZ
    obtain ⟨r, hr⟩ : ∃ r, Int.tmod a1 11 = r := ⟨_, rfl⟩
    have hr0 : 0 ≤ r ∧ r < 11 := by
      have h1 := Int.tmod_nonneg 11 ha1.1
      have h2 := Int.tmod_lt_of_pos a1 (show (0 : Int) < 11 by decide)
      rw [hr] at h1 h2
      exact ⟨h1, h2⟩
    obtain ⟨k, hk⟩ : ∃ k, 98 + r = k := ⟨_, rfl⟩
    have hk0 : 98 ≤ k ∧ k ≤ 108 := by omega
    have his := mis_is (s := misS (z0.take len0)) hk0
    have hkc : On.C64 k := by unfold On.C64; omega
    have hL1 := Lib.hid hL
    have hD := Lib.hid (fun (V : World) (o : Obj) (t : Int) (hb : Below w.heap.size w V) (ht : (floP (misS (z0.take len0)) k).1 = t) => mis_do (V := (V.alloc (.cells Zb 5)).alloc o) (((hL.below hb (Nat.le_refl _)).alloc _).alloc _) (fl_up (mis_row hZ) _) (fl_up (fl_up (hv.below hb) _) _) hvc (by omega) hkc ht his)
    have hNm := Lib.hid (fun (V : World) (hb : Below w.heap.size w V) => On.name_any k V (hL.below hb (Nat.le_refl _)) hkc)
    clear hL w0
    have hDt : ∀ t, (floP (misS (z0.take len0)) k).1 = t → ∀ (V : World) (o : Obj), Below w.heap.size w V → _ := fun t ht V o hb => hD.out V o t hb ht
    by_cases hfree : k = 98 ∨ k = 101 ∨ k = 106
    · have ht := mis_free (s := misS (z0.take len0)) hfree rfl rfl
      rw [show (misS (z0.take len0)).ctl.length = len0 from hvn] at ht
      have hnb : (strOfNums (On.nm k)).toList = [73, 70] ∨ ((¬ (strOfNums (On.nm k)).toList = [73, 70]) ∧ (strOfNums (On.nm k)).toList = [66, 69, 71, 73, 78]) ∨ ((¬ (strOfNums (On.nm k)).toList = [73, 70]) ∧ (¬ (strOfNums (On.nm k)).toList = [66, 69, 71, 73, 78]) ∧ (strOfNums (On.nm k)).toList = [68, 79]) := by
        rcases hfree with rfl | rfl | rfl
        · exact .inl (by decide +kernel)
        · exact .inr (.inl ⟨by decide +kernel, by decide +kernel⟩)
        · exact .inr (.inr ⟨by decide +kernel, by decide +kernel, by decide +kernel⟩)
      by_cases h126 : len0 ≤ 126
      · rw [if_pos h126] at ht
        have hD' := Lib.hid (hDt _ ht)
        by_cases h2 : len0 < 2
        · rcases hnb with n1 | ⟨n1, n2⟩ | ⟨n1, n2, n3⟩
          · exact mis_f00 (tt := 0) mk hA hD' hNm ha1 hr hr0 hk hk0 hbd hlen h2 n1
          · exact mis_f10 (tt := 0) mk hA hD' hNm ha1 hr hr0 hk hk0 hbd hlen h2 n1 n2
          · exact mis_f20 (tt := 0) mk hA hD' hNm ha1 hr hr0 hk hk0 hbd hlen h2 n1 n2 n3
        · rcases hnb with n1 | ⟨n1, n2⟩ | ⟨n1, n2, n3⟩
          · exact mis_f01 (tt := 0) mk hA hD' hNm ha1 hr hr0 hk hk0 hbd hlen h2 h126 n1
          · exact mis_f11 (tt := 0) mk hA hD' hNm ha1 hr hr0 hk hk0 hbd hlen h2 h126 n1 n2
          · exact mis_f21 (tt := 0) mk hA hD' hNm ha1 hr hr0 hk hk0 hbd hlen h2 h126 n1 n2 n3
      · rw [if_neg h126] at ht
        have hD' := Lib.hid (hDt _ ht)
        have h2 : ¬ len0 < 2 := by omega
        rcases hnb with n1 | ⟨n1, n2⟩ | ⟨n1, n2, n3⟩
        · exact mis_f02 (tt := 0) mk hA hD' hNm ha1 hr hr0 hk hk0 hbd hlen h2 h126 n1
        · exact mis_f12 (tt := 0) mk hA hD' hNm ha1 hr hr0 hk hk0 hbd hlen h2 h126 n1 n2
        · exact mis_f22 (tt := 0) mk hA hD' hNm ha1 hr hr0 hk hk0 hbd hlen h2 h126 n1 n2 n3
    · have hkn : k = 99 ∨ k = 100 ∨ k = 102 ∨ k = 103 ∨ k = 104 ∨ k = 105 ∨ k = 107 ∨ k = 108 := by omega
      have hnb : (¬ (strOfNums (On.nm k)).toList = [73, 70]) ∧ (¬ (strOfNums (On.nm k)).toList = [66, 69, 71, 73, 78]) ∧ (¬ (strOfNums (On.nm k)).toList = [68, 79]) := by
        rcases hkn with rfl | rfl | rfl | rfl | rfl | rfl | rfl | rfl
        all_goals exact ⟨by decide +kernel, by decide +kernel, by decide +kernel⟩
      obtain ⟨n1, n2, n3⟩ := hnb
      by_cases h2 : len0 < 2
      · have ht := mis_no (s := misS (z0.take len0)) hkn (.inl (by show (z0.take len0).length < 2; omega))
        have hD' := Lib.hid (hDt _ ht)
        exact mis_n0 (tt := 0) mk hA hD' hNm ha1 hr hr0 hk hk0 hbd hlen h2 n1 n2 n3
      · obtain ⟨q, hq⟩ : ∃ q : Nat, q + 2 = len0 := ⟨len0 - 2, by omega⟩
        have hqi : (len0 : Int) - 2 = (q : Int) := by omega
        have hql : (q : Int) < (len0 : Int) := by omega
        obtain ⟨b, o, ha, p0⟩ := ints_cell hv (i := q) (by show q < len0; omega)
        dsimp only at ha
        subst ha
        have hno : ¬ (1 ≤ (z0.take len0).getD q 0 ∧ (z0.take len0).getD q 0 ≤ 3) → (floP (misS (z0.take len0)) k).1 = -22 := fun hh => mis_no (s := misS (z0.take len0)) hkn (.inr (by
          show ¬ (1 ≤ (z0.take len0).getD ((z0.take len0).length - 2) 0 ∧ (z0.take len0).getD ((z0.take len0).length - 2) 0 ≤ 3)
          rw [hvn, show len0 - 2 = q by omega]
          exact hh))
        have hpk := Lib.hid (fun (V : World) (hb : Below w.heap.size w V) => (hb.cell (p := ⟨b, o + q, none⟩) (World.block_lt_of_cell? _ _ p0)).trans p0)
        by_cases hkk : 1 ≤ (z0.take len0).getD q 0 ∧ (z0.take len0).getD q 0 ≤ 3
        · have hD' := Lib.hid (hDt _ rfl)
          exact mis_n1 mk hA hD' hNm ha1 hr hr0 hk hk0 hbd hlen h2 hqi hql hpk hkk n1 n2 n3
        · have hD' := Lib.hid (hDt _ (hno hkk))
          by_cases hk1 : 1 ≤ (z0.take len0).getD q 0
          · exact mis_n2 (tt := 0) mk hA hD' hNm ha1 hr hr0 hk hk0 hbd hlen h2 hqi hql hpk hk1 (fun hc => hkk ⟨hk1, hc⟩) n1 n2 n3
          · exact mis_n3 (tt := 0) mk hA hD' hNm ha1 hr hr0 hk hk0 hbd hlen h2 hqi hql hpk hk1 n1 n2 n3
  · clear hL w0 hvc hvz hvn hv
    go_enter Tryd.func7, Tryd.ntmps7
    go_wp2_with (go_at_call 8; (with_reducible refine hA.out.mono ?_); rintro e w1 ⟨rfl, hb1⟩; replace hb1 := Lib.hid hb1)
    go_ret
    exact ⟨rfl, hb1.out⟩

/-! ### the door's own heap meets the condition -/
theorem door_met (os : Os) (args : Array Value) : laidMetH Tryd.prog [("nostos/ops.words", Rows.laid_nostos_ops_words)] ((World.doorLaid Tryd.prog 14 os).forCall (fun _ _ => 0) ⟨#[], args, []⟩).memory :=
  laidMetH_of_parts3 (fuel := 8) (laidMet_of_run' 8 (by kernel_rfl) (by kernel_rfl)) (by kernel_rfl) (by kernel_rfl)

/-! ### the row's step -/
set_option maxRecDepth 100000 in
theorem lifted (os : Os) (started : os.Started) (H : Type) (enc : TypeId × Value → H) :
    ReturnsInHanded {} Tryd.checked os 7 .any (fun w args => (Rows.flowMissesSpec.pre enc Tryd.prog Tryd.f7 [] false w args ∧ laidMetH Tryd.prog [("nostos/ops.words", Rows.laid_nostos_ops_words)] w) ∧ sizedMet enc Tryd.prog Tryd.f7 (OpenSpec.ofChange Rows.flowMissesSpec) false w args)
      (Rows.flowMissesSpec.post enc Tryd.prog Tryd.f7 false true false false) := by
  refine returnsInHanded_of_change_and (C := Tryd.checked) (X := fun w _ => laidMetH Tryd.prog [("nostos/ops.words", Rows.laid_nostos_ops_words)] w) (fun _ _ _ hh h => h.of_heap hh) own started (by kernel_rfl) Tryd.func7
    (ChangeSpec.witness_shaped (enc := enc) (C := Tryd.checked) (os := os) (X := fun w _ => laidMetH Tryd.prog [("nostos/ops.words", Rows.laid_nostos_ops_words)] w) false (World.doorLaid Tryd.prog 14 os) #[.slice none 0 0, .int .u8 0] 8 rfl (World.shaped_of_RefB (by kernel_rfl) (by kernel_rfl)) (by kernel_rfl) (by kernel_rfl) (by kernel_rfl) (door_met os _)) ?_
  intro W base args ds gs before hval0 hW _ _ hL0 _
  have hval : ∀ (j : Nat) t v, Tryd.f7.params[j]? = some t → args[j]? = some v → Value.okWide Tryd.prog W .any base t v := hval0
  have hW' := hW
  obtain ⟨p, q, hA0, hV, rfl, hfz, hnd⟩ := hW
  have hA : DataW.TrodAll enc Tryd.prog W 0 (fun _ => true) true Tryd.f7.params.toList args.toList ds p := hA0
  rw [Tryd.params7] at hA hval
  obtain ⟨v0, vs0, d0, ds0, p0, q0, hargs, rfl, rfl, h0, r0⟩ := trodAll_cons hA
  obtain ⟨v1, vs1, d1, ds1, p1, q1, rfl, rfl, rfl, h1, r1⟩ := trodAll_cons r0
  obtain ⟨rfl, rfl, rfl⟩ := trodAll_nil r1
  obtain rfl : args = #[v0, v1] := by cases args; simp_all
  obtain ⟨rfl, rfl⟩ := trodVars_none hV
  obtain ⟨a0, len0, cap0, rfl⟩ := okWide_slice Tryd.underlying23 (hval 0 23 v0 rfl rfl)
  have k0 := h0
  have lt0 : ∀ x ∈ p0, x.block < W.heap.size := by obtain ⟨m, hm⟩ := k0; exact DataW.trod_lt m _ _ _ hm
  obtain ⟨z0, w0⟩ : ∃ zs, IsRow .i64 W a0 len0 cap0 zs := by
    obtain ⟨fuel, hf⟩ := h0
    rcases open_ints Tryd.underlying23 Tryd.underlying3 (by kernel_rfl) hf with ⟨hcs, _⟩ | ⟨x, l, c, zs, hcs, _, hl, hm, hz, _, hcell, hwz⟩
    · simp [Value.cells] at hcs
      obtain ⟨rfl, rfl, rfl⟩ := hcs
      exact ⟨[], .inl ⟨rfl, rfl, rfl, rfl⟩⟩
    · simp [Value.cells] at hcs
      obtain ⟨rfl, rfl, rfl⟩ := hcs
      exact ⟨zs, .inr ⟨_, rfl, hl, hm, by simpa using hz, hcell, hwz⟩⟩
  obtain ⟨a1, rfl, rfl, rfl, w1⟩ := open_int Tryd.underlying5 (hval 1 5 v1 rfl rfl) h1
  clear hA0 hval0
  refine (walk a0 len0 cap0 z0 a1 W (laid_of hL0) w0 w1).mono fun e W' ⟨he, bel⟩ => ?_
  subst he
  exact ⟨_, rfl, _, _, _, [], _, [], hW', trodAll_mk1 (shut_bool Tryd.underlying4 _), (trodAll_cons_mk (Below.trod laidOut (by kernel_rfl) (of_decide_eq_true (by kernel_rfl)) k0 bel lt0) (trodAll_cons_mk (shut_int Tryd.underlying5 w1) trodAll_mk0)), rfl, bel.frame _, fun h => by cases h⟩

theorem over : Rows.flowMissesRow.holds Tryd.pinned (OpenSpec.ofChange Rows.flowMissesSpec) :=
  OpenClaim.holds_of_wide 7 Tryd.f7 rfl rfl rfl rfl rfl rfl rfl ⟨rfl, rfl, rfl, rfl, rfl⟩ rfl rfl rfl rfl rfl (by kernel_rfl) Tryd.func7 (by kernel_rfl)
    (of_decide_eq_true (by kernel_rfl)) (by unfold Func.isWrapper; first | (rw [if_pos (by decide +kernel)]; kernel_rfl) | (rw [if_neg (by decide +kernel)]; exact ⟨rfl, rfl⟩))
    (fun os started H enc _ => lifted os started H enc)

/-- the statement -/
theorem proved : Rows.FlowMissesCardSaid := 
  Claim7.holds_tied_plain_at .later [] [.data] true (true, "f3f2b75b8fc397f3d2f26ea97f6eb4f70b7f640fd2b20bf7410f9139b8af2ab6") false
    over (fun _ h => by cases h) (by kernel_rfl) (fun _ h => by cases h) flowMisses_row_tie rfl ⟨rfl, rfl⟩ (by kernel_rfl) rfl
    (fun f fn hf hfn => by
      obtain rfl : f = 7 := Option.some.inj ((show Tryd.prog.funcNamed "nostos/nostoslaw11.FlowMisses" = some 7 by kernel_rfl).symm.trans hf) |>.symm
      obtain rfl : fn = Tryd.f7 := (Option.some.inj (Tryd.func7.symm.trans hfn)).symm
      exact ⟨by kernel_rfl, fun j t ht => by
        rw [Tryd.params7] at ht
        have hm : t ∈ [23, 5] := by simpa using Array.mem_of_getElem? ht
        have hall : ([23, 5].all fun u => !Tryd.prog.wantsStandIn u) = true := by kernel_rfl
        exact (show Tryd.prog.wantsStandIn t = false by simpa using List.all_eq_true.1 hall t hm)⟩)
    (by kernel_rfl)
#print axioms proved
end Go.Proofs.YtcjbfokindoicaaDoor.flowMisses
