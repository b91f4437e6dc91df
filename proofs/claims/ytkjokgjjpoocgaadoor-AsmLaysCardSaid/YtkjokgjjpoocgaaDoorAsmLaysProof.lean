/- AsmLays: for every input the law returns true, and each argument reads behind the call as it read before. Condition: the listed package-level variables (nostos/ops.words) start as the program's own text lays them, and the card ties that to the text. -/
import Derived.Test.YtkjokgjjpoocgaaDoorRows
import Derived.WalkKit
import Derived.ProofKit
import Derived.OpenShut
import Derived.ShutString
import Derived.ChangeOld
import Derived.Below
import Derived.Test.YtkjokgjjpoocgaaDoorTie
import Derived.Test.YtkjokgjjpoocgaaDoorCards
import Derived.Test.YtkjokgjjpoocgaaDoorBelow
import Derived.Test.YtkjokgjjpoocgaaDoorAsmVar
import Derived.SevenTiedAt
import Derived.LaidMore
import Derived.Stop.Joined
namespace Go.Proofs.YtkjokgjjpoocgaaDoor.asmLays
open Go.ChangeShapes Go.WideShapes Go.ChangeAt Go.RowKit
open Go.ChangeMaps (open_string shut_string)
set_option linter.unusedVariables false

theorem own : ownKnob Tryd.prog.godebug = none := by kernel_rfl
theorem laidOut : laidOutB Tryd.prog = true := by kernel_rfl

/-- a slice of integers that came in: nil, or a row of cap cells, the numbers zs, each fitting its kind -/
def IsRow (k : IntKind) (w : World) (a : Option Addr) (len cap : Nat) (zs : List Int) : Prop :=
  (a = none ∧ len = 0 ∧ cap = 0 ∧ zs = []) ∨
  ∃ x, a = some x ∧ len ≤ cap ∧ cap ≤ maxLen ∧ zs.length = cap ∧ (∀ i, i < zs.length → w.cell? (x.add i) = some (.int k (zs.getD i 0))) ∧ ∀ n ∈ zs, (Lit.int k n).wf = true

/-! ### the walk: the Go text returns true -/
/-- what came in, as a list of integers -/
theorem isRow_fl {w : World} {a : Option Addr} {len cap : Nat} {zs : List Int} (h : IsRow .i64 w a len cap zs) : On.Fl (On.one .i64) 1 w ⟨a, len, cap⟩ (zs.take len) ∧ ∀ z ∈ zs, On.C64 z := by
  rcases h with ⟨rfl, rfl, rfl, rfl⟩ | ⟨x, rfl, hl, hm, hz, hcell, hwz⟩
  · exact ⟨On.Fl.zero _ _ w, fun z hz => by cases hz⟩
  · refine ⟨⟨?_, hl, hm, fun h => (by cases h), fun hn => ?_⟩, fun z hz => bd_i64 (hwz z hz)⟩
    · rw [one_flat]; simp; omega
    · obtain ⟨b, o, s⟩ := x
      dsimp only at hn
      obtain rfl : s = none := by simpa [Addr.add] using World.cell?_spot (hcell 0 (by omega))
      refine ⟨b, o, rfl, fun i v hi => ?_⟩
      rw [one_flat, List.getElem?_map] at hi
      have hil : i < len ∧ i < zs.length := by
        rcases Nat.lt_or_ge i (zs.take len).length with h | h
        · simp at h; omega
        · rw [List.getElem?_eq_none h] at hi; cases hi
      have := hcell i hil.2
      rw [add_plain] at this
      rw [this, ← hi, List.getElem?_take_of_lt hil.1]
      simp [List.getD, hil.2]

set_option maxRecDepth 100000 in
set_option maxHeartbeats 4000000 in
theorem walk (hd0 : On.Hs) (st0 : On.St) (a1 : Option Addr) (len1 cap1 : Nat) (z1 : List Int) (a2 : Int) (w : World) (hL : Laid w) (w0 : On.StIs w hd0 st0 ∧ st0.ok) (w1 : IsRow .i64 w a1 len1 cap1 z1) (w2 : (Lit.int .i64 a2).wf = true) :
    Calls Tryd.prog 3 #[.agg (On.cst hd0 st0), .slice a1 len1 cap1, .int .i64 a2] w fun e w' => e = .returned (.bool true) ∧ Below w.heap.size w w' := by
  obtain ⟨hS, hk⟩ := w0
  have hp : On.C64 a2 := bd_i64 w2
  obtain ⟨hv, hvz⟩ := isRow_fl w1
  have hvk : ∀ z ∈ z1.take len1, On.C64 z := fun z hz => hvz z (List.mem_of_mem_take hz)
  have hvl : (z1.take len1).length = len1 := On.Fl.len hv (fun _ => rfl) (by decide)
  have hvb := hv.bd
  dsimp only at hvb
  clear w1 w2 hvz
  generalize z1.take len1 = vs at *
  have hon := Lib.hid (came_first hS hv)
  have hw0 : Below w.heap.size w (w.alloc (.cells (On.cst hd0 st0) 28)) := (Below.refl _ _).alloc (Nat.le_refl _) _
  have hL0 : Laid (w.alloc (.cells (On.cst hd0 st0) 28)) := laid_from hL hw0
  have hA := awake_any _ hL0
  replace hw0 := Lib.hid hw0
  clear hL hL0 hS hv
  have q0 := Lib.hid (hon.out _ (Below.refl _ _)).b
  have hfew : ∀ V, Below (w.alloc (.cells (On.cst hd0 st0) 28)).heap.size (w.alloc (.cells (On.cst hd0 st0) 28)) V → _ := fun V hV => few_any hd0 st0 V (hon.out V hV).st
  by_cases hfs : Few st0
  · rw [decide_eq_true hfs] at hfew
    replace hfew := Lib.hid hfew
    by_cases hl : 20 < len1
    · go_enter Tryd.func3, Tryd.ntmps3
      go_wp2_with (first | (go_at_call 8; (with_reducible refine hA.mono ?_); rintro e w1 ⟨rfl, hb1⟩; have q1 := Lib.hid (hon.out _ hb1).b) | (refine wpList_load_row rfl 28 (.tmp 3) rfl w.heap.size rfl _ _ _ _ q1.out Tryd.underlying28 rfl stinfo ?_) | (go_at_call 9; (with_reducible refine (hfew.out _ hb1).mono ?_); rintro e w2 ⟨rfl, hx2⟩; have hb2 := since hb1 hx2; clear hx2))
      go_ret
      exact ⟨rfl, hw0.out.trans (hb2.mono hw0.out.size)⟩
    · obtain ⟨hm6, hs1⟩ := few_in hfs
      have hn1 : vs.length ≤ 1000 := by omega
      obtain ⟨n, hn, hcase⟩ : ∃ n, On.C64 n ∧ ((len1 = 0 ∧ n = 0) ∨ (0 < len1 ∧ ∃ b o, a1 = some ⟨b, o, none⟩ ∧ ∀ V, Below (w.alloc (.cells (On.cst hd0 st0) 28)).heap.size (w.alloc (.cells (On.cst hd0 st0) 28)) V → V.cell? ⟨b, o, none⟩ = some (.int .i64 n))) := by
        rcases Nat.eq_zero_or_pos len1 with h0 | h0
        · exact ⟨0, by unfold On.C64; omega, .inl ⟨h0, rfl⟩⟩
        · obtain ⟨b, o, ha, _⟩ := ints_cell (hon.out _ (Below.refl _ _)).vs (i := 0) h0
          refine ⟨vs.getD 0 0, hvk _ ?_, .inr ⟨h0, b, o, ha, fun V hV => ?_⟩⟩
          · simp [List.getD, show 0 < vs.length by omega]
          · obtain ⟨b', o', ha', hc⟩ := ints_cell (hon.out V hV).vs (i := 0) h0
            dsimp only at ha ha'
            rw [ha] at ha'
            simp at ha'
            obtain ⟨rfl, rfl⟩ := ha'
            exact hc
      have c1 := Lib.hid (fun V (hV : Below (w.alloc (.cells (On.cst hd0 st0) 28)).heap.size (w.alloc (.cells (On.cst hd0 st0) 28)) V) => (comma_any hd0 st0 n V (hon.out V hV).st hk (by omega) hn).mono fun e V' hh => zis_of hh)
      have c2 := Lib.hid (fun V (hV : Below (w.alloc (.cells (On.cst hd0 st0) 28)).heap.size (w.alloc (.cells (On.cst hd0 st0) 28)) V) => (rcomma_any hd0 st0 n V (hon.out V hV).st hk (by omega) hn).mono fun e V' hh => zis_of hh)
      have c3 := Lib.hid (fun V (hV : Below (w.alloc (.cells (On.cst hd0 st0) 28)).heap.size (w.alloc (.cells (On.cst hd0 st0) 28)) V) => (emit_any hd0 st0 ⟨a1, len1, cap1⟩ vs V (hon.out V hV).st hk hm6 hs1 (hon.out V hV).vs hvk hn1).mono fun e V' hh => zis_of hh)
      have c4 := Lib.hid (fun V (hV : Below (w.alloc (.cells (On.cst hd0 st0) 28)).heap.size (w.alloc (.cells (On.cst hd0 st0) 28)) V) => (remit_any hd0 st0 ⟨a1, len1, cap1⟩ vs V (hon.out V hV).st hk hm6 hs1 (hon.out V hV).vs hvk hn1).mono fun e V' hh => zis_of hh)
      have c5 := Lib.hid (fun V (hV : Below (w.alloc (.cells (On.cst hd0 st0) 28)).heap.size (w.alloc (.cells (On.cst hd0 st0) 28)) V) => (patch_any hd0 st0 a2 n V (hon.out V hV).st hk (by omega) hp hn).mono fun e V' hh => zis_of hh)
      have c6 := Lib.hid (fun V (hV : Below (w.alloc (.cells (On.cst hd0 st0) 28)).heap.size (w.alloc (.cells (On.cst hd0 st0) 28)) V) => (rpatch_any hd0 st0 a2 n V (hon.out V hV).st hk (by omega) hp hn).mono fun e V' hh => zis_of hh)
      dsimp only at c3 c4
      have k1 := Lib.hid (comC_ok hk (by omega) n)
      have k2 := Lib.hid (emitC_ok vs st0 hk (by omega))
      have k3 := Lib.hid (patC_ok hk a2 n)
      generalize comC st0 n = R1 at *
      generalize emitC st0 vs = R2 at *
      generalize patC st0 a2 n = R3 at *
      obtain ⟨t1, s1⟩ := R1
      obtain ⟨t2, s2⟩ := R2
      obtain ⟨t3, s3⟩ := R3
      dsimp only at c1 c2 c3 c4 c5 c6 k1 k2 k3
      have hstr := Lib.hid (fun V (hV : Below (w.alloc (.cells (On.cst hd0 st0) 28)).heap.size (w.alloc (.cells (On.cst hd0 st0) 28)) V) => show V.cell? ⟨w.heap.size, 0, none⟩ = some (.slice hd0.mem.a hd0.mem.n hd0.mem.c) ∧ (convert 22 9 (.slice hd0.mem.a hd0.mem.n hd0.mem.c)).run Tryd.prog V = .ok (.string (strOfNums st0.mem)) V from ⟨(hon.out V hV).b.cell 0 rfl, mem_str (hon.out V hV).st.mem hk.mem⟩)
      generalize strOfNums st0.mem = SM at *
      clear hk hm6 hs1 hn1 hvk hfs
      replace hcase := Lib.hid hcase
      rcases hcase.out with ⟨rfl, rfl⟩ | ⟨h0, b, o, rfl, hc⟩
      · clear hcase
        go_enter Tryd.func3, Tryd.ntmps3
        go_wp2_with (first
        | (go_at_call 8; (with_reducible refine hA.mono ?_); rintro e w1 ⟨rfl, hb1⟩; have q1 := Lib.hid (hon.out _ hb1).b)
        | (refine wpList_load_row rfl 28 (.tmp 3) rfl w.heap.size rfl _ _ _ _ q1.out Tryd.underlying28 rfl stinfo ?_)
        | (go_at_call 9; (with_reducible refine (hfew.out _ hb1).mono ?_); rintro e w2 ⟨rfl, hx2⟩; have hb2 := since hb1 hx2; clear hx2; have q2 := Lib.hid (hon.out _ hb2).b; obtain ⟨p0, p1⟩ := hstr.out _ hb2)
        | (refine wpList_load_row rfl 28 (.tmp 3) rfl w.heap.size rfl _ _ _ _ q2.out Tryd.underlying28 rfl stinfo ?_)
        | (go_at_call 10
           (with_reducible refine (c1.out _ hb2).mono ?_)
           rintro e w3 ⟨Z3, rfl, hZ3, hx3⟩
           have hst3 := cells_at (ds := Z3) (Bx.new w3 28 zst) hZ3.out.stz.1.symm hZ3.out.stz.2
           have hz3 := hZ3.out.stz.1
           have hy3 := aw_up1 hZ3.out.stz hx3
           have hb3 := since hb2 hy3
           have v3 := Lib.hid (Var.new hZ3.out)
           have q3 := Lib.hid (hon.out _ hb3).b
           clear hx3 hy3 hZ3)
        | (refine wpList_load_row rfl 28 (.tmp 3) rfl w.heap.size rfl _ _ _ _ q3.out Tryd.underlying28 rfl stinfo ?_)
        | (go_at_call 11
           (with_reducible refine (c2.out _ hb3).mono ?_)
           rintro e w4 ⟨Z4, rfl, hZ4, hx4⟩
           have hst4 := cells_at (ds := Z4) (Bx.new w4 28 zst) hZ4.out.stz.1.symm hZ4.out.stz.2
           have hz4 := hZ4.out.stz.1
           have hy4 := aw_up1 hZ4.out.stz hx4
           have hb4 := since hb3 hy4
           replace v3 := Lib.hid (v3.out.since hy4)
           have v4 := Lib.hid (Var.new hZ4.out)
           have q4 := Lib.hid (hon.out _ hb4).b
           clear hx4 hy4 hZ4)
        | (refine wpList_load_row rfl 28 (.tmp 3) rfl w.heap.size rfl _ _ _ _ q4.out Tryd.underlying28 rfl stinfo ?_)
        | (go_at_call 12
           (with_reducible refine (c3.out _ hb4).mono ?_)
           rintro e w5 ⟨Z5, rfl, hZ5, hx5⟩
           have hst5 := cells_at (ds := Z5) (Bx.new w5 28 zst) hZ5.out.stz.1.symm hZ5.out.stz.2
           have hz5 := hZ5.out.stz.1
           have hy5 := aw_up1 hZ5.out.stz hx5
           have hb5 := since hb4 hy5
           replace v3 := Lib.hid (v3.out.since hy5)
           replace v4 := Lib.hid (v4.out.since hy5)
           have v5 := Lib.hid (Var.new hZ5.out)
           have q5 := Lib.hid (hon.out _ hb5).b
           clear hx5 hy5 hZ5)
        | (refine wpList_load_row rfl 28 (.tmp 3) rfl w.heap.size rfl _ _ _ _ q5.out Tryd.underlying28 rfl stinfo ?_)
        | (go_at_call 13
           (with_reducible refine (c4.out _ hb5).mono ?_)
           rintro e w6 ⟨Z6, rfl, hZ6, hx6⟩
           have hst6 := cells_at (ds := Z6) (Bx.new w6 28 zst) hZ6.out.stz.1.symm hZ6.out.stz.2
           have hz6 := hZ6.out.stz.1
           have hy6 := aw_up1 hZ6.out.stz hx6
           have hb6 := since hb5 hy6
           replace v3 := Lib.hid (v3.out.since hy6)
           replace v4 := Lib.hid (v4.out.since hy6)
           replace v5 := Lib.hid (v5.out.since hy6)
           have v6 := Lib.hid (Var.new hZ6.out)
           have q6 := Lib.hid (hon.out _ hb6).b
           clear hx6 hy6 hZ6)
        | (refine wpList_load_row rfl 28 (.tmp 3) rfl w.heap.size rfl _ _ _ _ q6.out Tryd.underlying28 rfl stinfo ?_)
        | (go_at_call 14
           (with_reducible refine (c5.out _ hb6).mono ?_)
           rintro e w7 ⟨Z7, rfl, hZ7, hx7⟩
           have hst7 := cells_at (ds := Z7) (Bx.new w7 28 zst) hZ7.out.stz.1.symm hZ7.out.stz.2
           have hz7 := hZ7.out.stz.1
           have hy7 := aw_up1 hZ7.out.stz hx7
           have hb7 := since hb6 hy7
           replace v3 := Lib.hid (v3.out.since hy7)
           replace v4 := Lib.hid (v4.out.since hy7)
           replace v5 := Lib.hid (v5.out.since hy7)
           replace v6 := Lib.hid (v6.out.since hy7)
           have v7 := Lib.hid (Var.new hZ7.out)
           have q7 := Lib.hid (hon.out _ hb7).b
           clear hx7 hy7 hZ7)
        | (refine wpList_load_row rfl 28 (.tmp 3) rfl w.heap.size rfl _ _ _ _ q7.out Tryd.underlying28 rfl stinfo ?_)
        | (go_at_call 15
           (with_reducible refine (c6.out _ hb7).mono ?_)
           rintro e w8 ⟨Z8, rfl, hZ8, hx8⟩
           have hst8 := cells_at (ds := Z8) (Bx.new w8 28 zst) hZ8.out.stz.1.symm hZ8.out.stz.2
           have hz8 := hZ8.out.stz.1
           have hy8 := aw_up1 hZ8.out.stz hx8
           have hb8 := since hb7 hy8
           replace v3 := Lib.hid (v3.out.since hy8)
           replace v4 := Lib.hid (v4.out.since hy8)
           replace v5 := Lib.hid (v5.out.since hy8)
           replace v6 := Lib.hid (v6.out.since hy8)
           replace v7 := Lib.hid (v7.out.since hy8)
           have v8 := Lib.hid (Var.new hZ8.out)
           have q8 := Lib.hid (hon.out _ hb8).b
           clear hx8 hy8 hZ8
           have S1 := Lib.hid (same_z v3.out.is.2 v4.out.is.2 k1.out))
        | (refine wpList_load_row_g (by first | rfl | kernel_rfl) 28 (.tmp 10) rfl w3.heap.size rfl _ _ _ v3.out.is.1 Tryd.underlying28 rfl (info_z v3.out) ?_)
        | (refine wpList_load_row_g (by first | rfl | kernel_rfl) 28 (.tmp 12) rfl w4.heap.size rfl _ _ _ v4.out.is.1 Tryd.underlying28 rfl (info_z v4.out) ?_)
        | (refine wpList_load_row_g (by first | rfl | kernel_rfl) 28 (.tmp 14) rfl w5.heap.size rfl _ _ _ v5.out.is.1 Tryd.underlying28 rfl (info_z v5.out) ?_)
        | (refine wpList_load_row_g (by first | rfl | kernel_rfl) 28 (.tmp 16) rfl w6.heap.size rfl _ _ _ v6.out.is.1 Tryd.underlying28 rfl (info_z v6.out) ?_)
        | (refine wpList_load_row_g (by first | rfl | kernel_rfl) 28 (.tmp 18) rfl w7.heap.size rfl _ _ _ v7.out.is.1 Tryd.underlying28 rfl (info_z v7.out) ?_)
        | (refine wpList_load_row_g (by first | rfl | kernel_rfl) 28 (.tmp 20) rfl w8.heap.size rfl _ _ _ v8.out.is.1 Tryd.underlying28 rfl (info_z v8.out) ?_)
        | (go_at_call 16
           (with_reducible refine S1.out.mono ?_)
           rintro e w9 ⟨rfl, hy9⟩
           have hb9 := since hb8 hy9
           replace v5 := Lib.hid (v5.out.since hy9)
           replace v6 := Lib.hid (v6.out.since hy9)
           replace v7 := Lib.hid (v7.out.since hy9)
           replace v8 := Lib.hid (v8.out.since hy9)
           have S2 := Lib.hid (same_z v5.out.is.2 v6.out.is.2 k2.out)
           clear hy9)
        | (go_at_call 16
           (with_reducible refine S2.out.mono ?_)
           rintro e w10 ⟨rfl, hy10⟩
           have hb10 := since hb9 hy10
           replace v7 := Lib.hid (v7.out.since hy10)
           replace v8 := Lib.hid (v8.out.since hy10)
           have S3 := Lib.hid (same_z v7.out.is.2 v8.out.is.2 k3.out)
           clear hy10)
        | (go_at_call 16
           (with_reducible refine S3.out.mono ?_)
           rintro e w11 ⟨rfl, hy11⟩
           have hb11 := since hb10 hy11
           obtain ⟨p2, p3⟩ := hstr.out _ hb11
           clear hy11))
        go_ret
        exact ⟨rfl, hw0.out.trans (hb11.mono hw0.out.size)⟩
      · clear hcase
        replace hc := Lib.hid hc
        go_enter Tryd.func3, Tryd.ntmps3
        go_wp2_with (first
        | (go_at_call 8; (with_reducible refine hA.mono ?_); rintro e w1 ⟨rfl, hb1⟩; have q1 := Lib.hid (hon.out _ hb1).b)
        | (refine wpList_load_row rfl 28 (.tmp 3) rfl w.heap.size rfl _ _ _ _ q1.out Tryd.underlying28 rfl stinfo ?_)
        | (go_at_call 9; (with_reducible refine (hfew.out _ hb1).mono ?_); rintro e w2 ⟨rfl, hx2⟩; have hb2 := since hb1 hx2; clear hx2; have q2 := Lib.hid (hon.out _ hb2).b; obtain ⟨p0, p1⟩ := hstr.out _ hb2; have p5 := hc.out _ hb2)
        | (refine wpList_load_row rfl 28 (.tmp 3) rfl w.heap.size rfl _ _ _ _ q2.out Tryd.underlying28 rfl stinfo ?_)
        | (go_at_call 10
           (with_reducible refine (c1.out _ hb2).mono ?_)
           rintro e w3 ⟨Z3, rfl, hZ3, hx3⟩
           have hst3 := cells_at (ds := Z3) (Bx.new w3 28 zst) hZ3.out.stz.1.symm hZ3.out.stz.2
           have hz3 := hZ3.out.stz.1
           have hy3 := aw_up1 hZ3.out.stz hx3
           have hb3 := since hb2 hy3
           have v3 := Lib.hid (Var.new hZ3.out)
           have q3 := Lib.hid (hon.out _ hb3).b
           clear hx3 hy3 hZ3)
        | (refine wpList_load_row rfl 28 (.tmp 3) rfl w.heap.size rfl _ _ _ _ q3.out Tryd.underlying28 rfl stinfo ?_)
        | (go_at_call 11
           (with_reducible refine (c2.out _ hb3).mono ?_)
           rintro e w4 ⟨Z4, rfl, hZ4, hx4⟩
           have hst4 := cells_at (ds := Z4) (Bx.new w4 28 zst) hZ4.out.stz.1.symm hZ4.out.stz.2
           have hz4 := hZ4.out.stz.1
           have hy4 := aw_up1 hZ4.out.stz hx4
           have hb4 := since hb3 hy4
           replace v3 := Lib.hid (v3.out.since hy4)
           have v4 := Lib.hid (Var.new hZ4.out)
           have q4 := Lib.hid (hon.out _ hb4).b
           clear hx4 hy4 hZ4)
        | (refine wpList_load_row rfl 28 (.tmp 3) rfl w.heap.size rfl _ _ _ _ q4.out Tryd.underlying28 rfl stinfo ?_)
        | (go_at_call 12
           (with_reducible refine (c3.out _ hb4).mono ?_)
           rintro e w5 ⟨Z5, rfl, hZ5, hx5⟩
           have hst5 := cells_at (ds := Z5) (Bx.new w5 28 zst) hZ5.out.stz.1.symm hZ5.out.stz.2
           have hz5 := hZ5.out.stz.1
           have hy5 := aw_up1 hZ5.out.stz hx5
           have hb5 := since hb4 hy5
           replace v3 := Lib.hid (v3.out.since hy5)
           replace v4 := Lib.hid (v4.out.since hy5)
           have v5 := Lib.hid (Var.new hZ5.out)
           have q5 := Lib.hid (hon.out _ hb5).b
           clear hx5 hy5 hZ5)
        | (refine wpList_load_row rfl 28 (.tmp 3) rfl w.heap.size rfl _ _ _ _ q5.out Tryd.underlying28 rfl stinfo ?_)
        | (go_at_call 13
           (with_reducible refine (c4.out _ hb5).mono ?_)
           rintro e w6 ⟨Z6, rfl, hZ6, hx6⟩
           have hst6 := cells_at (ds := Z6) (Bx.new w6 28 zst) hZ6.out.stz.1.symm hZ6.out.stz.2
           have hz6 := hZ6.out.stz.1
           have hy6 := aw_up1 hZ6.out.stz hx6
           have hb6 := since hb5 hy6
           replace v3 := Lib.hid (v3.out.since hy6)
           replace v4 := Lib.hid (v4.out.since hy6)
           replace v5 := Lib.hid (v5.out.since hy6)
           have v6 := Lib.hid (Var.new hZ6.out)
           have q6 := Lib.hid (hon.out _ hb6).b
           clear hx6 hy6 hZ6)
        | (refine wpList_load_row rfl 28 (.tmp 3) rfl w.heap.size rfl _ _ _ _ q6.out Tryd.underlying28 rfl stinfo ?_)
        | (go_at_call 14
           (with_reducible refine (c5.out _ hb6).mono ?_)
           rintro e w7 ⟨Z7, rfl, hZ7, hx7⟩
           have hst7 := cells_at (ds := Z7) (Bx.new w7 28 zst) hZ7.out.stz.1.symm hZ7.out.stz.2
           have hz7 := hZ7.out.stz.1
           have hy7 := aw_up1 hZ7.out.stz hx7
           have hb7 := since hb6 hy7
           replace v3 := Lib.hid (v3.out.since hy7)
           replace v4 := Lib.hid (v4.out.since hy7)
           replace v5 := Lib.hid (v5.out.since hy7)
           replace v6 := Lib.hid (v6.out.since hy7)
           have v7 := Lib.hid (Var.new hZ7.out)
           have q7 := Lib.hid (hon.out _ hb7).b
           clear hx7 hy7 hZ7)
        | (refine wpList_load_row rfl 28 (.tmp 3) rfl w.heap.size rfl _ _ _ _ q7.out Tryd.underlying28 rfl stinfo ?_)
        | (go_at_call 15
           (with_reducible refine (c6.out _ hb7).mono ?_)
           rintro e w8 ⟨Z8, rfl, hZ8, hx8⟩
           have hst8 := cells_at (ds := Z8) (Bx.new w8 28 zst) hZ8.out.stz.1.symm hZ8.out.stz.2
           have hz8 := hZ8.out.stz.1
           have hy8 := aw_up1 hZ8.out.stz hx8
           have hb8 := since hb7 hy8
           replace v3 := Lib.hid (v3.out.since hy8)
           replace v4 := Lib.hid (v4.out.since hy8)
           replace v5 := Lib.hid (v5.out.since hy8)
           replace v6 := Lib.hid (v6.out.since hy8)
           replace v7 := Lib.hid (v7.out.since hy8)
           have v8 := Lib.hid (Var.new hZ8.out)
           have q8 := Lib.hid (hon.out _ hb8).b
           clear hx8 hy8 hZ8
           have S1 := Lib.hid (same_z v3.out.is.2 v4.out.is.2 k1.out))
        | (refine wpList_load_row_g (by first | rfl | kernel_rfl) 28 (.tmp 10) rfl w3.heap.size rfl _ _ _ v3.out.is.1 Tryd.underlying28 rfl (info_z v3.out) ?_)
        | (refine wpList_load_row_g (by first | rfl | kernel_rfl) 28 (.tmp 12) rfl w4.heap.size rfl _ _ _ v4.out.is.1 Tryd.underlying28 rfl (info_z v4.out) ?_)
        | (refine wpList_load_row_g (by first | rfl | kernel_rfl) 28 (.tmp 14) rfl w5.heap.size rfl _ _ _ v5.out.is.1 Tryd.underlying28 rfl (info_z v5.out) ?_)
        | (refine wpList_load_row_g (by first | rfl | kernel_rfl) 28 (.tmp 16) rfl w6.heap.size rfl _ _ _ v6.out.is.1 Tryd.underlying28 rfl (info_z v6.out) ?_)
        | (refine wpList_load_row_g (by first | rfl | kernel_rfl) 28 (.tmp 18) rfl w7.heap.size rfl _ _ _ v7.out.is.1 Tryd.underlying28 rfl (info_z v7.out) ?_)
        | (refine wpList_load_row_g (by first | rfl | kernel_rfl) 28 (.tmp 20) rfl w8.heap.size rfl _ _ _ v8.out.is.1 Tryd.underlying28 rfl (info_z v8.out) ?_)
        | (go_at_call 16
           (with_reducible refine S1.out.mono ?_)
           rintro e w9 ⟨rfl, hy9⟩
           have hb9 := since hb8 hy9
           replace v5 := Lib.hid (v5.out.since hy9)
           replace v6 := Lib.hid (v6.out.since hy9)
           replace v7 := Lib.hid (v7.out.since hy9)
           replace v8 := Lib.hid (v8.out.since hy9)
           have S2 := Lib.hid (same_z v5.out.is.2 v6.out.is.2 k2.out)
           clear hy9)
        | (go_at_call 16
           (with_reducible refine S2.out.mono ?_)
           rintro e w10 ⟨rfl, hy10⟩
           have hb10 := since hb9 hy10
           replace v7 := Lib.hid (v7.out.since hy10)
           replace v8 := Lib.hid (v8.out.since hy10)
           have S3 := Lib.hid (same_z v7.out.is.2 v8.out.is.2 k3.out)
           clear hy10)
        | (go_at_call 16
           (with_reducible refine S3.out.mono ?_)
           rintro e w11 ⟨rfl, hy11⟩
           have hb11 := since hb10 hy11
           obtain ⟨p2, p3⟩ := hstr.out _ hb11
           clear hy11))
        go_ret
        exact ⟨rfl, hw0.out.trans (hb11.mono hw0.out.size)⟩
  · rw [decide_eq_false hfs] at hfew
    replace hfew := Lib.hid hfew
    go_enter Tryd.func3, Tryd.ntmps3
    go_wp2_with (first | (go_at_call 8; (with_reducible refine hA.mono ?_); rintro e w1 ⟨rfl, hb1⟩; have q1 := Lib.hid (hon.out _ hb1).b) | (refine wpList_load_row rfl 28 (.tmp 3) rfl w.heap.size rfl _ _ _ _ q1.out Tryd.underlying28 rfl stinfo ?_) | (go_at_call 9; (with_reducible refine (hfew.out _ hb1).mono ?_); rintro e w2 ⟨rfl, hx2⟩; have hb2 := since hb1 hx2; clear hx2))
    go_ret
    exact ⟨rfl, hw0.out.trans (hb2.mono hw0.out.size)⟩

/-! ### the door's own heap meets the condition -/
theorem door_met (os : Os) (args : Array Value) : laidMetH Tryd.prog [("nostos/ops.words", Rows.laid_nostos_ops_words)] ((World.doorLaid Tryd.prog 14 os).forCall (fun _ _ => 0) ⟨#[], args, []⟩).memory :=
  laidMetH_of_parts3 (fuel := 8) (laidMet_of_run' 8 (by kernel_rfl) (by kernel_rfl)) (by kernel_rfl) (by kernel_rfl)

/-! ### the row's step -/
set_option maxRecDepth 100000 in
theorem lifted (os : Os) (started : os.Started) (H : Type) (enc : TypeId × Value → H) :
    ReturnsInHanded {} Tryd.checked os 3 .any (fun w args => (Rows.asmLaysSpec.pre enc Tryd.prog Tryd.f3 [] false w args ∧ laidMetH Tryd.prog [("nostos/ops.words", Rows.laid_nostos_ops_words)] w) ∧ sizedMet enc Tryd.prog Tryd.f3 (OpenSpec.ofChange Rows.asmLaysSpec) false w args)
      (Rows.asmLaysSpec.post enc Tryd.prog Tryd.f3 false true false false) := by
  refine returnsInHanded_of_change_and (C := Tryd.checked) (X := fun w _ => laidMetH Tryd.prog [("nostos/ops.words", Rows.laid_nostos_ops_words)] w) (fun _ _ _ hh h => h.of_heap hh) own started (by kernel_rfl) Tryd.func3
    (ChangeSpec.witness_shaped (enc := enc) (C := Tryd.checked) (os := os) (X := fun w _ => laidMetH Tryd.prog [("nostos/ops.words", Rows.laid_nostos_ops_words)] w) false (World.doorLaid Tryd.prog 14 os) #[.agg #[.slice none 0 0, .slice none 0 0, .slice none 0 0, .slice none 0 0, .slice none 0 0, .slice none 0 0, .slice none 0 0, .int .i64 0, .int .i64 0, .int .i64 0, .int .i64 0, .int .i64 0, .int .i64 0, .bool false, .bool false], .slice none 0 0, .int .i64 0] 8 rfl (World.shaped_of_RefB (by kernel_rfl) (by kernel_rfl)) (by kernel_rfl) (by kernel_rfl) (by kernel_rfl) (door_met os _)) ?_
  intro W base args ds gs before hval0 hW _ _ hL0 _
  have hval : ∀ (j : Nat) t v, Tryd.f3.params[j]? = some t → args[j]? = some v → Value.okWide Tryd.prog W .any base t v := hval0
  have hW' := hW
  obtain ⟨p, q, hA0, hV, rfl, hfz, hnd⟩ := hW
  have hA : DataW.TrodAll enc Tryd.prog W 0 (fun _ => true) true Tryd.f3.params.toList args.toList ds p := hA0
  rw [Tryd.params3] at hA hval
  obtain ⟨v0, vs0, d0, ds0, p0, q0, hargs, rfl, rfl, h0, r0⟩ := trodAll_cons hA
  obtain ⟨v1, vs1, d1, ds1, p1, q1, rfl, rfl, rfl, h1, r1⟩ := trodAll_cons r0
  obtain ⟨v2, vs2, d2, ds2, p2, q2, rfl, rfl, rfl, h2, r2⟩ := trodAll_cons r1
  obtain ⟨rfl, rfl, rfl⟩ := trodAll_nil r2
  obtain rfl : args = #[v0, v1, v2] := by cases args; simp_all
  obtain ⟨rfl, rfl⟩ := trodVars_none hV
  have k0 := h0
  have lt0 : ∀ x ∈ p0, x.block < W.heap.size := by obtain ⟨m, hm⟩ := k0; exact DataW.trod_lt m _ _ _ hm
  obtain ⟨hd0, st0, rfl, w0⟩ := On.open_state (hval 0 28 v0 rfl rfl) h0
  obtain ⟨a1, len1, cap1, rfl⟩ := okWide_slice Tryd.underlying23 (hval 1 23 v1 rfl rfl)
  have k1 := h1
  have lt1 : ∀ x ∈ p1, x.block < W.heap.size := by obtain ⟨m, hm⟩ := k1; exact DataW.trod_lt m _ _ _ hm
  obtain ⟨z1, w1⟩ : ∃ zs, IsRow .i64 W a1 len1 cap1 zs := by
    obtain ⟨fuel, hf⟩ := h1
    rcases open_ints Tryd.underlying23 Tryd.underlying3 (by kernel_rfl) hf with ⟨hcs, _⟩ | ⟨x, l, c, zs, hcs, _, hl, hm, hz, _, hcell, hwz⟩
    · simp [Value.cells] at hcs
      obtain ⟨rfl, rfl, rfl⟩ := hcs
      exact ⟨[], .inl ⟨rfl, rfl, rfl, rfl⟩⟩
    · simp [Value.cells] at hcs
      obtain ⟨rfl, rfl, rfl⟩ := hcs
      exact ⟨zs, .inr ⟨_, rfl, hl, hm, by simpa using hz, hcell, hwz⟩⟩
  obtain ⟨a2, rfl, rfl, rfl, w2⟩ := open_int Tryd.underlying3 (hval 2 3 v2 rfl rfl) h2
  clear hA0 hval0
  refine (walk hd0 st0 a1 len1 cap1 z1 a2 W (laid_of hL0) w0 w1 w2).mono fun e W' ⟨he, bel⟩ => ?_
  subst he
  exact ⟨_, rfl, _, _, _, [], _, [], hW', trodAll_mk1 (shut_bool Tryd.underlying4 _), (trodAll_cons_mk (Below.trod laidOut (by kernel_rfl) (of_decide_eq_true (by kernel_rfl)) k0 bel lt0) (trodAll_cons_mk (Below.trod laidOut (by kernel_rfl) (of_decide_eq_true (by kernel_rfl)) k1 bel lt1) (trodAll_cons_mk (shut_int Tryd.underlying3 w2) trodAll_mk0))), rfl, bel.frame _, fun h => by cases h⟩

theorem over : Rows.asmLaysRow.holds Tryd.pinned (OpenSpec.ofChange Rows.asmLaysSpec) :=
  OpenClaim.holds_of_wide 3 Tryd.f3 rfl rfl rfl rfl rfl rfl rfl ⟨rfl, rfl, rfl, rfl, rfl⟩ rfl rfl rfl rfl rfl (by kernel_rfl) Tryd.func3 (by kernel_rfl)
    (of_decide_eq_true (by kernel_rfl)) (by unfold Func.isWrapper; first | (rw [if_pos (by decide +kernel)]; kernel_rfl) | (rw [if_neg (by decide +kernel)]; exact ⟨rfl, rfl⟩))
    (fun os started H enc _ => lifted os started H enc)

/-- the statement -/
theorem proved : Rows.AsmLaysCardSaid := 
  Claim7.holds_tied_plain_at .later [] [.data] true (true, "961e839cc12026cbaef8b63ef80415f98936f9fe6d737958e1b5d0b4db23427f") false
    over (fun _ h => by cases h) (by kernel_rfl) (fun _ h => by cases h) asmLays_row_tie rfl ⟨rfl, rfl⟩ (by kernel_rfl) rfl
    (fun f fn hf hfn => by
      obtain rfl : f = 3 := Option.some.inj ((show Tryd.prog.funcNamed "nostos/nostoslaw10.AsmLays" = some 3 by kernel_rfl).symm.trans hf) |>.symm
      obtain rfl : fn = Tryd.f3 := (Option.some.inj (Tryd.func3.symm.trans hfn)).symm
      exact ⟨by kernel_rfl, fun j t ht => by
        rw [Tryd.params3] at ht
        have hm : t ∈ [28, 23, 3] := by simpa using Array.mem_of_getElem? ht
        have hall : ([28, 23, 3].all fun u => !Tryd.prog.wantsStandIn u) = true := by kernel_rfl
        exact (show Tryd.prog.wantsStandIn t = false by simpa using List.all_eq_true.1 hall t hm)⟩)
    (by kernel_rfl)
#print axioms proved
end Go.Proofs.YtkjokgjjpoocgaaDoor.asmLays
