/- FlowMisses, case by case. -/
import Derived.Test.YtcjbfokindoicaaDoorFloMis
namespace Go.Proofs.YtcjbfokindoicaaDoor
set_option maxRecDepth 100000
open Go.ChangeShapes Go.WideShapes Go.ChangeAt Go.RowKit
open On (St Hs StIs cst Fl one C64 C8 Sc slc spc Sz bytesOk)
set_option linter.unusedVariables false
set_option maxRecDepth 100000

set_option maxHeartbeats 4000000 in
theorem mis_f00 {w : World} {a0 : Option Addr} {len0 cap0 : Nat} {a1 r k tt : Int} {nb : ByteArray} {Zb : Array Value}
    (mk : ∀ W, (Instr.makeSlice 22 (.int .i64 200) (.int .i64 200)).run Tryd.prog W = .ok (.slice (some ⟨W.heap.size, 0, none⟩) 200 200) (W.alloc (.cells Zb 5)))
    (hA : Hid (Calls Tryd.prog 8 #[] w fun e w' => e = .returned (.bool true) ∧ Below w.heap.size w w'))
    (hD : Hid (∀ (V : World) (ob : Obj), Below w.heap.size w V → Calls Tryd.prog 10 #[.agg #[.slice (some ⟨V.heap.size, 0, none⟩) 200 200, .slice none 0 0, .slice none 0 0, .slice a0 len0 cap0, .slice none 0 0, .slice none 0 0, .slice none 0 0, .int .i64 0, .int .i64 0, .int .i64 0, .int .i64 0, .int .i64 0, .int .i64 0, .bool false, .bool false], .int .i64 k] ((V.alloc (.cells Zb 5)).alloc ob) fun e w3 => ∃ Z, e = .returned (.tuple #[.agg Z, .int .i64 0, .bool true]) ∧ Hid (StZ Z) ∧ Below ((V.alloc (.cells Zb 5)).alloc ob).heap.size ((V.alloc (.cells Zb 5)).alloc ob) w3))
    (hNm : Hid (∀ (V : World), Below w.heap.size w V → Calls Tryd.prog 15 #[.int .i64 k] V fun e w' => e = .returned (.string nb) ∧ V = w'))
    (ha1 : 0 ≤ a1 ∧ a1 ≤ 255) (hr : Int.tmod a1 11 = r) (hr0 : 0 ≤ r ∧ r < 11) (hk : 98 + r = k) (hk0 : 98 ≤ k ∧ k ≤ 108) (hbd : (len0 : Int) ≤ 9223372036854775807 ∧ (cap0 : Int) ≤ 9223372036854775807 ∧ len0 ≤ cap0) (hlen : len0 ≤ 200) (h2 : len0 < 2) (n1 : nb.toList = [73, 70]) :
    Calls Tryd.prog 7 #[.slice a0 len0 cap0, .int .u8 a1] w fun e w' => e = .returned (.bool true) ∧ Below w.heap.size w w' := by
  have d1 : decide (126 < (len0 : Int)) = false := decide_eq_false (by omega)
  have d2 : decide ((len0 : Int) ≤ 126) = true := decide_eq_true (by omega)
  go_enter Tryd.func7, Tryd.ntmps7
  go_wp2_with (first
    | (go_at_call 8; (with_reducible refine hA.out.mono ?_); rintro e w1 ⟨rfl, hb1⟩; replace hb1 := Lib.hid hb1)
    | (refine wpList_load_row rfl 28 (.tmp 7) rfl (w1.heap.size + 1) rfl _ _ _ _ (bx_at (by simp)) Tryd.underlying28 rfl stinfo ?_)
    | (go_at_call 10
       (with_reducible refine (hD.out _ _ hb1.out).mono ?_)
       rintro e w3 ⟨Z, rfl, hz, hb3⟩
       have hz1 := hz.out.1
       have hb4 := Lib.hid (new_row (Z := Z) (since2 (bl_alloc (bl_alloc hb1.out (.cells Zb 5)) _) hb3))
       skip
       have kst0 := cells_at (ds := Z) (Bx.new w3 28 zst) hz.out.1.symm hz.out.2)
    | (go_at_call 15; (with_reducible refine (hNm.out _ hb4.out).mono ?_); rintro e w5 ⟨rfl, rfl⟩))
  go_ret
  exact ⟨rfl, hb4.out⟩
set_option maxHeartbeats 4000000 in
theorem mis_f01 {w : World} {a0 : Option Addr} {len0 cap0 : Nat} {a1 r k tt : Int} {nb : ByteArray} {Zb : Array Value}
    (mk : ∀ W, (Instr.makeSlice 22 (.int .i64 200) (.int .i64 200)).run Tryd.prog W = .ok (.slice (some ⟨W.heap.size, 0, none⟩) 200 200) (W.alloc (.cells Zb 5)))
    (hA : Hid (Calls Tryd.prog 8 #[] w fun e w' => e = .returned (.bool true) ∧ Below w.heap.size w w'))
    (hD : Hid (∀ (V : World) (ob : Obj), Below w.heap.size w V → Calls Tryd.prog 10 #[.agg #[.slice (some ⟨V.heap.size, 0, none⟩) 200 200, .slice none 0 0, .slice none 0 0, .slice a0 len0 cap0, .slice none 0 0, .slice none 0 0, .slice none 0 0, .int .i64 0, .int .i64 0, .int .i64 0, .int .i64 0, .int .i64 0, .int .i64 0, .bool false, .bool false], .int .i64 k] ((V.alloc (.cells Zb 5)).alloc ob) fun e w3 => ∃ Z, e = .returned (.tuple #[.agg Z, .int .i64 0, .bool true]) ∧ Hid (StZ Z) ∧ Below ((V.alloc (.cells Zb 5)).alloc ob).heap.size ((V.alloc (.cells Zb 5)).alloc ob) w3))
    (hNm : Hid (∀ (V : World), Below w.heap.size w V → Calls Tryd.prog 15 #[.int .i64 k] V fun e w' => e = .returned (.string nb) ∧ V = w'))
    (ha1 : 0 ≤ a1 ∧ a1 ≤ 255) (hr : Int.tmod a1 11 = r) (hr0 : 0 ≤ r ∧ r < 11) (hk : 98 + r = k) (hk0 : 98 ≤ k ∧ k ≤ 108) (hbd : (len0 : Int) ≤ 9223372036854775807 ∧ (cap0 : Int) ≤ 9223372036854775807 ∧ len0 ≤ cap0) (hlen : len0 ≤ 200) (h2 : ¬ len0 < 2) (h126 : len0 ≤ 126) (n1 : nb.toList = [73, 70]) :
    Calls Tryd.prog 7 #[.slice a0 len0 cap0, .int .u8 a1] w fun e w' => e = .returned (.bool true) ∧ Below w.heap.size w w' := by
  have d1 : decide (126 < (len0 : Int)) = false := decide_eq_false (by omega)
  have d2 : decide ((len0 : Int) ≤ 126) = true := decide_eq_true (by omega)
  go_enter Tryd.func7, Tryd.ntmps7
  go_wp2_with (first
    | (go_at_call 8; (with_reducible refine hA.out.mono ?_); rintro e w1 ⟨rfl, hb1⟩; replace hb1 := Lib.hid hb1)
    | (refine wpList_load_row rfl 28 (.tmp 7) rfl (w1.heap.size + 1) rfl _ _ _ _ (bx_at (by simp)) Tryd.underlying28 rfl stinfo ?_)
    | (go_at_call 10
       (with_reducible refine (hD.out _ _ hb1.out).mono ?_)
       rintro e w3 ⟨Z, rfl, hz, hb3⟩
       have hz1 := hz.out.1
       have hb4 := Lib.hid (new_row (Z := Z) (since2 (bl_alloc (bl_alloc hb1.out (.cells Zb 5)) _) hb3))
       skip
       have kst0 := cells_at (ds := Z) (Bx.new w3 28 zst) hz.out.1.symm hz.out.2)
    | (go_at_call 15; (with_reducible refine (hNm.out _ hb4.out).mono ?_); rintro e w5 ⟨rfl, rfl⟩))
  go_ret
  exact ⟨rfl, hb4.out⟩
set_option maxHeartbeats 4000000 in
theorem mis_f02 {w : World} {a0 : Option Addr} {len0 cap0 : Nat} {a1 r k tt : Int} {nb : ByteArray} {Zb : Array Value}
    (mk : ∀ W, (Instr.makeSlice 22 (.int .i64 200) (.int .i64 200)).run Tryd.prog W = .ok (.slice (some ⟨W.heap.size, 0, none⟩) 200 200) (W.alloc (.cells Zb 5)))
    (hA : Hid (Calls Tryd.prog 8 #[] w fun e w' => e = .returned (.bool true) ∧ Below w.heap.size w w'))
    (hD : Hid (∀ (V : World) (ob : Obj), Below w.heap.size w V → Calls Tryd.prog 10 #[.agg #[.slice (some ⟨V.heap.size, 0, none⟩) 200 200, .slice none 0 0, .slice none 0 0, .slice a0 len0 cap0, .slice none 0 0, .slice none 0 0, .slice none 0 0, .int .i64 0, .int .i64 0, .int .i64 0, .int .i64 0, .int .i64 0, .int .i64 0, .bool false, .bool false], .int .i64 k] ((V.alloc (.cells Zb 5)).alloc ob) fun e w3 => ∃ Z, e = .returned (.tuple #[.agg Z, .int .i64 (-3), .bool true]) ∧ Hid (StZ Z) ∧ Below ((V.alloc (.cells Zb 5)).alloc ob).heap.size ((V.alloc (.cells Zb 5)).alloc ob) w3))
    (hNm : Hid (∀ (V : World), Below w.heap.size w V → Calls Tryd.prog 15 #[.int .i64 k] V fun e w' => e = .returned (.string nb) ∧ V = w'))
    (ha1 : 0 ≤ a1 ∧ a1 ≤ 255) (hr : Int.tmod a1 11 = r) (hr0 : 0 ≤ r ∧ r < 11) (hk : 98 + r = k) (hk0 : 98 ≤ k ∧ k ≤ 108) (hbd : (len0 : Int) ≤ 9223372036854775807 ∧ (cap0 : Int) ≤ 9223372036854775807 ∧ len0 ≤ cap0) (hlen : len0 ≤ 200) (h2 : ¬ len0 < 2) (h126 : ¬ len0 ≤ 126) (n1 : nb.toList = [73, 70]) :
    Calls Tryd.prog 7 #[.slice a0 len0 cap0, .int .u8 a1] w fun e w' => e = .returned (.bool true) ∧ Below w.heap.size w w' := by
  have d1 : decide (126 < (len0 : Int)) = true := decide_eq_true (by omega)
  have d2 : decide ((len0 : Int) ≤ 126) = false := decide_eq_false (by omega)
  go_enter Tryd.func7, Tryd.ntmps7
  go_wp2_with (first
    | (go_at_call 8; (with_reducible refine hA.out.mono ?_); rintro e w1 ⟨rfl, hb1⟩; replace hb1 := Lib.hid hb1)
    | (refine wpList_load_row rfl 28 (.tmp 7) rfl (w1.heap.size + 1) rfl _ _ _ _ (bx_at (by simp)) Tryd.underlying28 rfl stinfo ?_)
    | (go_at_call 10
       (with_reducible refine (hD.out _ _ hb1.out).mono ?_)
       rintro e w3 ⟨Z, rfl, hz, hb3⟩
       have hz1 := hz.out.1
       have hb4 := Lib.hid (new_row (Z := Z) (since2 (bl_alloc (bl_alloc hb1.out (.cells Zb 5)) _) hb3))
       skip
       have kst0 := cells_at (ds := Z) (Bx.new w3 28 zst) hz.out.1.symm hz.out.2)
    | (go_at_call 15; (with_reducible refine (hNm.out _ hb4.out).mono ?_); rintro e w5 ⟨rfl, rfl⟩))
  go_ret
  exact ⟨rfl, hb4.out⟩
set_option maxHeartbeats 4000000 in
theorem mis_n0 {w : World} {a0 : Option Addr} {len0 cap0 : Nat} {a1 r k tt : Int} {nb : ByteArray} {Zb : Array Value}
    (mk : ∀ W, (Instr.makeSlice 22 (.int .i64 200) (.int .i64 200)).run Tryd.prog W = .ok (.slice (some ⟨W.heap.size, 0, none⟩) 200 200) (W.alloc (.cells Zb 5)))
    (hA : Hid (Calls Tryd.prog 8 #[] w fun e w' => e = .returned (.bool true) ∧ Below w.heap.size w w'))
    (hD : Hid (∀ (V : World) (ob : Obj), Below w.heap.size w V → Calls Tryd.prog 10 #[.agg #[.slice (some ⟨V.heap.size, 0, none⟩) 200 200, .slice none 0 0, .slice none 0 0, .slice a0 len0 cap0, .slice none 0 0, .slice none 0 0, .slice none 0 0, .int .i64 0, .int .i64 0, .int .i64 0, .int .i64 0, .int .i64 0, .int .i64 0, .bool false, .bool false], .int .i64 k] ((V.alloc (.cells Zb 5)).alloc ob) fun e w3 => ∃ Z, e = .returned (.tuple #[.agg Z, .int .i64 (-22), .bool true]) ∧ Hid (StZ Z) ∧ Below ((V.alloc (.cells Zb 5)).alloc ob).heap.size ((V.alloc (.cells Zb 5)).alloc ob) w3))
    (hNm : Hid (∀ (V : World), Below w.heap.size w V → Calls Tryd.prog 15 #[.int .i64 k] V fun e w' => e = .returned (.string nb) ∧ V = w'))
    (ha1 : 0 ≤ a1 ∧ a1 ≤ 255) (hr : Int.tmod a1 11 = r) (hr0 : 0 ≤ r ∧ r < 11) (hk : 98 + r = k) (hk0 : 98 ≤ k ∧ k ≤ 108) (hbd : (len0 : Int) ≤ 9223372036854775807 ∧ (cap0 : Int) ≤ 9223372036854775807 ∧ len0 ≤ cap0) (hlen : len0 ≤ 200) (h2 : len0 < 2) (n1 : ¬ nb.toList = [73, 70]) (n2 : ¬ nb.toList = [66, 69, 71, 73, 78]) (n3 : ¬ nb.toList = [68, 79]) :
    Calls Tryd.prog 7 #[.slice a0 len0 cap0, .int .u8 a1] w fun e w' => e = .returned (.bool true) ∧ Below w.heap.size w w' := by
  have b1 : (nb.toList == [73, 70]) = false := by simpa using n1
  have b2 : (nb.toList == [66, 69, 71, 73, 78]) = false := by simpa using n2
  have b3 : (nb.toList == [68, 79]) = false := by simpa using n3
  go_enter Tryd.func7, Tryd.ntmps7
  go_wp2_with (first
    | (go_at_call 8; (with_reducible refine hA.out.mono ?_); rintro e w1 ⟨rfl, hb1⟩; replace hb1 := Lib.hid hb1)
    | (refine wpList_load_row rfl 28 (.tmp 7) rfl (w1.heap.size + 1) rfl _ _ _ _ (bx_at (by simp)) Tryd.underlying28 rfl stinfo ?_)
    | (go_at_call 10
       (with_reducible refine (hD.out _ _ hb1.out).mono ?_)
       rintro e w3 ⟨Z, rfl, hz, hb3⟩
       have hz1 := hz.out.1
       have hb4 := Lib.hid (new_row (Z := Z) (since2 (bl_alloc (bl_alloc hb1.out (.cells Zb 5)) _) hb3))
       skip
       have kst0 := cells_at (ds := Z) (Bx.new w3 28 zst) hz.out.1.symm hz.out.2)
    | (go_at_call 15; (with_reducible refine (hNm.out _ hb4.out).mono ?_); rintro e w5 ⟨rfl, rfl⟩))
  go_ret
  exact ⟨rfl, hb4.out⟩
set_option maxHeartbeats 4000000 in
theorem mis_n3 {w : World} {b o q : Nat} {kk : Int} {len0 cap0 : Nat} {a1 r k tt : Int} {nb : ByteArray} {Zb : Array Value}
    (mk : ∀ W, (Instr.makeSlice 22 (.int .i64 200) (.int .i64 200)).run Tryd.prog W = .ok (.slice (some ⟨W.heap.size, 0, none⟩) 200 200) (W.alloc (.cells Zb 5)))
    (hA : Hid (Calls Tryd.prog 8 #[] w fun e w' => e = .returned (.bool true) ∧ Below w.heap.size w w'))
    (hD : Hid (∀ (V : World) (ob : Obj), Below w.heap.size w V → Calls Tryd.prog 10 #[.agg #[.slice (some ⟨V.heap.size, 0, none⟩) 200 200, .slice none 0 0, .slice none 0 0, .slice (some ⟨b, o, none⟩) len0 cap0, .slice none 0 0, .slice none 0 0, .slice none 0 0, .int .i64 0, .int .i64 0, .int .i64 0, .int .i64 0, .int .i64 0, .int .i64 0, .bool false, .bool false], .int .i64 k] ((V.alloc (.cells Zb 5)).alloc ob) fun e w3 => ∃ Z, e = .returned (.tuple #[.agg Z, .int .i64 (-22), .bool true]) ∧ Hid (StZ Z) ∧ Below ((V.alloc (.cells Zb 5)).alloc ob).heap.size ((V.alloc (.cells Zb 5)).alloc ob) w3))
    (hNm : Hid (∀ (V : World), Below w.heap.size w V → Calls Tryd.prog 15 #[.int .i64 k] V fun e w' => e = .returned (.string nb) ∧ V = w'))
    (ha1 : 0 ≤ a1 ∧ a1 ≤ 255) (hr : Int.tmod a1 11 = r) (hr0 : 0 ≤ r ∧ r < 11) (hk : 98 + r = k) (hk0 : 98 ≤ k ∧ k ≤ 108) (hbd : (len0 : Int) ≤ 9223372036854775807 ∧ (cap0 : Int) ≤ 9223372036854775807 ∧ len0 ≤ cap0) (hlen : len0 ≤ 200) (h2 : ¬ len0 < 2) (hqi : (len0 : Int) - 2 = (q : Int)) (hql : (q : Int) < (len0 : Int)) (hpk : Hid (∀ (V : World), Below w.heap.size w V → V.cell? ⟨b, o + q, none⟩ = some (.int .i64 kk))) (hkk : ¬ 1 ≤ kk) (n1 : ¬ nb.toList = [73, 70]) (n2 : ¬ nb.toList = [66, 69, 71, 73, 78]) (n3 : ¬ nb.toList = [68, 79]) :
    Calls Tryd.prog 7 #[.slice (some ⟨b, o, none⟩) len0 cap0, .int .u8 a1] w fun e w' => e = .returned (.bool true) ∧ Below w.heap.size w w' := by
  have b1 : (nb.toList == [73, 70]) = false := by simpa using n1
  have b2 : (nb.toList == [66, 69, 71, 73, 78]) = false := by simpa using n2
  have b3 : (nb.toList == [68, 79]) = false := by simpa using n3
  go_enter Tryd.func7, Tryd.ntmps7
  go_wp2_with (first
    | (go_at_call 8; (with_reducible refine hA.out.mono ?_); rintro e w1 ⟨rfl, hb1⟩; replace hb1 := Lib.hid hb1)
    | (refine wpList_load_row rfl 28 (.tmp 7) rfl (w1.heap.size + 1) rfl _ _ _ _ (bx_at (by simp)) Tryd.underlying28 rfl stinfo ?_)
    | (go_at_call 10
       (with_reducible refine (hD.out _ _ hb1.out).mono ?_)
       rintro e w3 ⟨Z, rfl, hz, hb3⟩
       have hz1 := hz.out.1
       have hb4 := Lib.hid (new_row (Z := Z) (since2 (bl_alloc (bl_alloc hb1.out (.cells Zb 5)) _) hb3))
       have pk := hpk.out _ hb4.out
       have kst0 := cells_at (ds := Z) (Bx.new w3 28 zst) hz.out.1.symm hz.out.2)
    | (go_at_call 15; (with_reducible refine (hNm.out _ hb4.out).mono ?_); rintro e w5 ⟨rfl, rfl⟩))
  go_ret
  exact ⟨rfl, hb4.out⟩
end Go.Proofs.YtcjbfokindoicaaDoor
