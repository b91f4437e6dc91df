/- MemoryBytes: for every input the law returns true, and each argument reads behind the call as it read before. No condition. -/
import Derived.Test.YtfaajbcfebficaaRows
import Derived.WalkKit
import Derived.ProofKit
import Derived.OpenShut
import Derived.Test.YtfaajbcfebficaaBelow
import Derived.Test.YtfaajbcfebficaaMemLaw
import Derived.ShutString
import Derived.ChangeOld
import Derived.Below
namespace Go.Proofs.Ytfaajbcfebficaa.memoryBytes
open Go.ChangeShapes Go.WideShapes Go.ChangeAt Go.RowKit
open Go.ChangeMaps (open_string shut_string)
set_option linter.unusedVariables false

theorem own : ownKnob Try.prog.godebug = none := by kernel_rfl
theorem laidOut : laidOutB Try.prog = true := by kernel_rfl

/-- WHAT THE WALK IS TOLD OF A SLICE OF INTEGERS THAT CAME IN: it is nil; or it leads to a row of 'cap' cells, the numbers 'zs' (the first 'len' are its elements, the rest its spare room), each fitting its kind. -/
def IsRow (k : IntKind) (w : World) (a : Option Addr) (len cap : Nat) (zs : List Int) : Prop :=
  (a = none ∧ len = 0 ∧ cap = 0 ∧ zs = []) ∨
  ∃ x, a = some x ∧ len ≤ cap ∧ cap ≤ maxLen ∧ zs.length = cap ∧ (∀ i, i < zs.length → w.cell? (x.add i) = some (.int k (zs.getD i 0))) ∧ ∀ n ∈ zs, (Lit.int k n).wf = true

/-! ### the walk: the Go text returns true -/
/-- what came in, as a list of bytes -/
theorem isRow_mem {w : World} {a : Option Addr} {len cap : Nat} {zs : List Int} (h : IsRow .u8 w a len cap zs) : Mem w a len cap (zs.take len) := by
  rcases h with ⟨rfl, rfl, rfl, rfl⟩ | ⟨x, rfl, hl, hm, hz, hcell, hwz⟩
  · exact Mem.zero w
  · refine ⟨by simp; omega, hl, hm, fun y hy => ?_, fun h => (by cases h), fun hn => ?_⟩
    · have := bd_u8 (hwz y (List.mem_of_mem_take hy))
      omega
    · obtain ⟨b, o, s⟩ := x
      obtain rfl : s = none := by simpa [Addr.add] using World.cell?_spot (hcell 0 (by omega))
      refine ⟨b, o, rfl, fun i hi => ?_⟩
      have := hcell i (by omega)
      rw [add_plain] at this
      rw [this]
      simp [List.getD, hi]

set_option maxHeartbeats 1000000 in
theorem walk (a0 : Option Addr) (len0 cap0 : Nat) (z0 : List Int) (a1 : Int) (w : World) (w0 : IsRow .u8 w a0 len0 cap0 z0) (w1 : (Lit.int .i64 a1).wf = true) :
    Calls Try.prog 7 #[.slice a0 len0 cap0, .int .i64 a1] w fun e w' => e = .returned (.bool true) ∧ Below w.heap.size w w' := by
  have hp := bd_i64 w1
  have hm := isRow_mem w0
  clear w0 w1
  generalize z0.take len0 = xs at hm
  by_cases hl : 200 < len0
  · clear hm
    go_enter Try.func7, Try.ntmps7
    go_wp2_with (go_at_call 8; refine (awake_any _).mono ?_; rintro e w1 ⟨rfl, hb1⟩)
    go_ret
    exact ⟨rfl, by assumption⟩
  have hn : len0 ≤ 281474976710656 := by omega
  have hlen := hm.len
  subst hlen
  by_cases h1 : tC xs.length a1 = 0
  · obtain ⟨q1, q2, _⟩ := tC_in h1
    obtain ⟨q, rfl⟩ := Int.eq_ofNat_of_zero_le q1
    obtain ⟨f1, f2, f3⟩ := cut_facts (xs := xs) (q := q) (by omega)
    have F3 := Lib.hid f3
    have hcel : Hid (celI xs (q : Int) = wrap64 (upN xs q 0 8)) := by
      show celI xs (q : Int) = _
      unfold celI
      rw [if_pos h1, ← sum_up]
      rfl
    have hok := Lib.hid hm.ok
    obtain ⟨V, hV⟩ : ∃ V, V = celI xs (q : Int) := ⟨_, rfl⟩
    have hVb := celI_bd xs (q : Int)
    rw [← hV] at hVb
    have hV' := Lib.hid hV
    have hcell := fun W (hW : Mem W a0 xs.length cap0 xs) => cell_any a0 xs.length cap0 xs (q : Int) W hW hp
    rw [← hV, h1] at hcell
    have hcell' := Lib.hid hcell
    clear f3 h1 hcell hV
    go_enter Try.func7, Try.ntmps7
    go_wp2_with (first | (go_at_call 8; refine (awake_any _).mono ?_; rintro e w1 ⟨rfl, hb1⟩; have hm1 := hm.below hb1) | (go_at_call 9; (with_reducible refine (hcell'.out _ (by assumption)).mono ?_); rintro e w' ⟨rfl, rfl⟩) | (go_at_call 13; (with_reducible refine (bytes_any _ _ _ _ _ _ _ hm1 hn hp (by decide)).mono ?_); rintro e w2 ⟨b2, c2, rfl, hM2, hb2⟩; rw [f2] at hM2; have hm2 := hm1.below hb2))
    obtain ⟨b', o', rfl, hc'⟩ := hM2.cells (by decide)
    have HC := Lib.hid hc'
    clear hc' hM2
    go_loop [10, 11, 12, 13] (fun nn i _ _ => ∃ k : Nat, k ≤ 8 ∧ i = .int .i64 ((k : Int) - 1) ∧ nn = .int .i64 (wrap64 (upN xs q k (8 - k)))) (fun _ i _ _ => (intOf i + 1).toNat)
    case atStart => exact ⟨8, by omega, rfl, congrArg (Value.int .i64) w0.symm⟩
    case round =>
      obtain ⟨k, hk, rfl, hv⟩ := hrel
      rcases k with _ | j
      · have e : V = wrap64 (upN xs q 0 8) := hV'.out.trans hcel.out
        rw [show 8 - 0 = 8 by decide, ← e] at hv
        clear e
        subst hv
        go_wp2
        go_ret
        exact ⟨rfl, hb1.trans (hb2.mono hb1.size)⟩
      · rw [show (((j+1:Nat):Int) - 1) = j from by omega]
        obtain ⟨e1, e2, e3⟩ := F3.out j (by omega)
        have hby := byte_any a0 xs.length cap0 xs ((q : Int) + (j : Int)) w2 hm2 (by omega)
        have hcj := HC.out j (by omega)
        have hyb := hok.out.get (q + j)
        rw [e1] at hcj
        rw [e2, e3] at hby
        obtain ⟨x, hx⟩ : ∃ x, x = wrap64 (upN xs q (j + 1) (7 - j)) := ⟨_, rfl⟩
        have hxb := wbd (upN xs q (j + 1) (7 - j))
        rw [show 8 - (j + 1) = 7 - j by omega, ← hx] at hv
        rw [← hx] at hxb
        subst hv
        have hnew : Hid (wrap64 (wrap64 (x * 256) + xs.getD (q + j) 0) = wrap64 (upN xs q j (8 - j))) := by
          show wrap64 (wrap64 (x * 256) + xs.getD (q + j) 0) = wrap64 (upN xs q j (8 - j))
          rw [hx, show 8 - j = (7 - j) + 1 by omega]
          simp only [upN]
          unfold wrap64
          omega
        generalize xs.getD (q + j) 0 = y at *
        have hby' := Lib.hid hby
        clear hx hby e1 e2 e3
        go_wp2_with (go_at_call 11; refine (hby'.out).mono ?_; rintro e w' ⟨rfl, rfl⟩)
        exact ⟨⟨j, by omega, rfl, congrArg (Value.int .i64) hnew.out⟩, by simp only [intOf]; omega⟩
  · have g4 : (tC xs.length a1 != 0) = true := by simpa using h1
    clear h1
    go_enter Try.func7, Try.ntmps7
    go_wp2_with (first | (go_at_call 8; refine (awake_any _).mono ?_; rintro e w1 ⟨rfl, hb1⟩; have hm1 := hm.below hb1) | (go_at_call 9; (with_reducible refine (cell_any _ _ _ _ _ _ (by assumption) (by assumption)).mono ?_); rintro e w' ⟨rfl, rfl⟩))
    go_ret
    exact ⟨rfl, hb1⟩

/-! ### THE ROW's STEP: WRITTEN OUT: LEAVE IT -/
set_option maxRecDepth 100000 in
theorem lifted (os : Os) (started : os.Started) (H : Type) (enc : TypeId × Value → H) :
    ReturnsInHanded {} Try.checked os 7 .any (Rows.memoryBytesSpec.pre6 enc Try.prog Try.f7 Rows.memoryBytesRow.domain false) (Rows.memoryBytesSpec.post enc Try.prog Try.f7 false true false false) := by
  refine returnsInHanded_of_change (C := Try.checked) own started (by kernel_rfl) Try.func7
    (ChangeSpec.witness6 (enc := enc) (C := Try.checked) false ⟨#[], #[.slice none 0 0, .int .i64 0], []⟩ 8 (by kernel_rfl) (by kernel_rfl) (by kernel_rfl) (by kernel_rfl)) ?_
  intro W base args ds gs before hval0 hW hcnd _
  have hval : ∀ (j : Nat) t v, Try.f7.params[j]? = some t → args[j]? = some v → Value.okWide Try.prog W .any base t v := hval0
  have hW' := hW
  obtain ⟨p, q, hA0, hV, rfl, hfz, hnd⟩ := hW
  have hA : DataW.TrodAll enc Try.prog W 0 (fun _ => true) true Try.f7.params.toList args.toList ds p := hA0
  rw [Try.params7] at hA hval
  obtain ⟨v0, vs0, d0, ds0, p0, q0, hargs, rfl, rfl, h0, r0⟩ := trodAll_cons hA
  obtain ⟨v1, vs1, d1, ds1, p1, q1, rfl, rfl, rfl, h1, r1⟩ := trodAll_cons r0
  obtain ⟨rfl, rfl, rfl⟩ := trodAll_nil r1
  obtain rfl : args = #[v0, v1] := by cases args; simp_all
  obtain ⟨rfl, rfl⟩ := trodVars_none hV
  obtain ⟨a0, len0, cap0, rfl⟩ := okWide_slice Try.underlying22 (hval 0 22 v0 rfl rfl)
  have k0 := h0
  have lt0 : ∀ x ∈ p0, x.block < W.heap.size := by obtain ⟨m, hm⟩ := k0; exact DataW.trod_lt m _ _ _ hm
  obtain ⟨z0, w0⟩ : ∃ zs, IsRow .u8 W a0 len0 cap0 zs := by
    obtain ⟨fuel, hf⟩ := h0
    rcases open_ints Try.underlying22 Try.underlying5 (by kernel_rfl) hf with ⟨hcs, _⟩ | ⟨x, l, c, zs, hcs, _, hl, hm, hz, _, hcell, hwz⟩
    · simp [Value.cells] at hcs
      obtain ⟨rfl, rfl, rfl⟩ := hcs
      exact ⟨[], .inl ⟨rfl, rfl, rfl, rfl⟩⟩
    · simp [Value.cells] at hcs
      obtain ⟨rfl, rfl, rfl⟩ := hcs
      exact ⟨zs, .inr ⟨_, rfl, hl, hm, by simpa using hz, hcell, hwz⟩⟩
  obtain ⟨a1, rfl, rfl, rfl, w1⟩ := open_int Try.underlying3 (hval 1 3 v1 rfl rfl) h1
  clear hA0 hval0
  refine (walk a0 len0 cap0 z0 a1 W w0 w1).mono fun e W' ⟨he, bel⟩ => ?_
  subst he
  exact ⟨_, rfl, _, _, _, [], _, [], hW', trodAll_mk1 (shut_bool Try.underlying4 _), (trodAll_cons_mk (Below.trod laidOut (by kernel_rfl) (of_decide_eq_true (by kernel_rfl)) k0 bel lt0) (trodAll_cons_mk (shut_int Try.underlying3 w1) trodAll_mk0)), rfl, bel.frame _, fun h => by cases h⟩

theorem over : Rows.memoryBytesRow.holds Try.pinned (OpenSpec.ofChange Rows.memoryBytesSpec) :=
  OpenClaim.holds_of_wide 7 Try.f7 rfl rfl rfl rfl rfl rfl rfl ⟨rfl, rfl, rfl, rfl, rfl⟩ rfl rfl rfl rfl rfl (by kernel_rfl) Try.func7 (by kernel_rfl)
    (of_decide_eq_true (by kernel_rfl)) (by unfold Func.isWrapper; first | (rw [if_pos (by decide +kernel)]; kernel_rfl) | (rw [if_neg (by decide +kernel)]; exact ⟨rfl, rfl⟩))
    (fun os started H enc _ => lifted os started H enc)

/-- ████ THE STATEMENT ████ -/
theorem proved : Rows.MemoryBytesSaid := over
#print axioms proved
end Go.Proofs.Ytfaajbcfebficaa.memoryBytes
