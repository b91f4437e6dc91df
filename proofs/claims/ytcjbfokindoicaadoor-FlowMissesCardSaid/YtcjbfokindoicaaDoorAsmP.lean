/- The program's Patch and Comma. -/
import Derived.Test.YtcjbfokindoicaaDoorAsmRef
import Derived.Test.YtcjbfokindoicaaDoorMemFresh
namespace Go.Proofs.YtcjbfokindoicaaDoor
set_option maxRecDepth 100000
open Go.ChangeShapes Go.WideShapes Go.ChangeAt Go.RowKit
open On (St Hs StIs cst Fl one C64 C8 Sc)
set_option linter.unusedVariables false
set_option maxRecDepth 100000

theorem patch_okf (h : Hs) (s : St) (p v : Int) (w : World) (hS : StIs w h s) (hk : s.ok) (hm : s.mem.length ≤ 1000000) (hp : C64 p) (hv : C64 v) (ht : Me.tC s.mem.length p = 0) :
    Calls Tryd.prog 58 #[.agg (cst h s), .int .i64 p, .int .i64 v] w (PatF w h { s with mem := Me.setC s.mem p v }) := by
  have hl : s.mem.length = h.mem.n := Fl.len hS.mem (fun _ => rfl) (by decide)
  obtain ⟨b1, b2, hb0⟩ := boxes w (cst h s) zst 28
  have ht2 : Me.tC h.mem.n p = 0 := by rw [← hl]; exact ht
  have hC := Me.setCell_fresh h.mem.a h.mem.n h.mem.c s.mem p v _ ((mem_of hS.mem hk.mem).below hb0) (by omega) hp hv ht2
  replace hC := Lib.hid (hC.mono (R' := fun e w3 => ∃ a c, e = .returned (.tuple #[.slice a (Me.setC s.mem p v).length c, .int .i64 0]) ∧
      Bx (w3.setCell ⟨w.heap.size, 0, none⟩ (.slice a (Me.setC s.mem p v).length c)) w.heap.size 28 (cst { h with mem := ⟨a, (Me.setC s.mem p v).length, c⟩ } { s with mem := Me.setC s.mem p v }) ∧
      Bx (w3.setCell ⟨w.heap.size, 0, none⟩ (.slice a (Me.setC s.mem p v).length c)) (w.heap.size + 1) 28 zst ∧
      w3.cell? ⟨w.heap.size, 0, none⟩ = some h.mem.val ∧ w3.frozen? ⟨w.heap.size, 0, none⟩ = false ∧
      Fl (one .u8) 1 ((w3.setCell ⟨w.heap.size, 0, none⟩ (.slice a (Me.setC s.mem p v).length c)).setRow (w.heap.size + 1) (cst { h with mem := ⟨a, (Me.setC s.mem p v).length, c⟩ } { s with mem := Me.setC s.mem p v })) ⟨a, (Me.setC s.mem p v).length, c⟩ (Me.setC s.mem p v) ∧ Below w.heap.size w w3 ∧ ∀ y, a = some y → w.heap.size ≤ y.block) fun e w3 hh => by
    obtain ⟨a, c, rfl, hM, hb, hfr⟩ := hh
    have hb' := hb0.trans (hb.mono hb0.size)
    have c1 := b1.below hb b1.lt
    have c2 := b2.below hb b2.lt
    exact ⟨a, c, rfl, c1.set 0 _, c2.setOther _ _ (by simp), c1.cell 0 rfl, c1.free 0, mem_keep (of_mem hM) w.heap.size (w.heap.size + 1) c1 c2 (cst_nob _ _) zst_nob (fun k k1 k2 => (setRow_other _ _ k _ k2).trans (heap_set_other _ _ _ k1)), hb', fun y hy => Nat.le_trans hb0.size (hfr y hy)⟩)
  have hend := Lib.hid (fun (W : World) (b : Value) (cs : Array Value) (hb : Below w.heap.size w W) => (show Below w.heap.size w ((W.setCell ⟨w.heap.size, 0, none⟩ b).setRow (w.heap.size + 1) cs) from below_setRow (hb.setCell (p := ⟨w.heap.size, 0, none⟩) (Nat.le_refl _) b) (by omega) cs))
  clear b1 b2 hb0 ht ht2 hS hk hp hv hl hm
  generalize Me.setC s.mem p v = m at *
  go_enter Tryd.func58, Tryd.ntmps58
  go_wp2_with (first | (go_at_call 66; (with_reducible refine hC.out.mono ?_); rintro e w3 ⟨a3, c3, rfl, q1, q2, q3, q4, q5, q6, q7⟩; replace q7 := Lib.hid q7; replace q5 := Lib.hid q5; replace q6 := Lib.hid q6; replace q1 := Lib.hid q1; replace q2 := Lib.hid q2) | (refine wpList_load_row rfl 28 (.tmp 3) rfl w.heap.size rfl _ _ _ _ q1.out Tryd.underlying28 rfl stinfo ?_) | (refine wpList_store_row rfl 28 (.tmp 6) (.tmp 24) rfl (w.heap.size + 1) _ rfl rfl _ _ q2.out stinfo rfl (cst_one _ _) ?_))
  refine bodyPost_ret (results_row2 rfl _ _ (w.heap.size + 1) 28 _ _ _ rfl rfl (q2.out.row _) Tryd.underlying28 rfl stinfo) rfl ⟨_, rfl, q5.out, hend.out _ _ _ q6.out, q7.out⟩
theorem patch_ok (h : Hs) (s : St) (p v : Int) (w : World) (hS : StIs w h s) (hk : s.ok) (hm : s.mem.length ≤ 1000000) (hp : C64 p) (hv : C64 v) (ht : Me.tC s.mem.length p = 0) :
    Calls Tryd.prog 58 #[.agg (cst h s), .int .i64 p, .int .i64 v] w (PatEnd w h { s with mem := Me.setC s.mem p v }) := (patch_okf h s p v w hS hk hm hp hv ht).mono fun e w' hh => hh.end_
theorem patch_no (h : Hs) (s : St) (p v : Int) (w : World) (hS : StIs w h s) (hk : s.ok) (hm : s.mem.length ≤ 1000000) (hp : C64 p) (hv : C64 v) (ht : Me.tC s.mem.length p ≠ 0) :
    Calls Tryd.prog 58 #[.agg (cst h s), .int .i64 p, .int .i64 v] w (NoEnd w (Me.tC s.mem.length p)) := by
  have hl : s.mem.length = h.mem.n := Fl.len hS.mem (fun _ => rfl) (by decide)
  obtain ⟨b1, b2, hb0⟩ := boxes w (cst h s) zst 28
  have hC := Me.setCell_any h.mem.a h.mem.n h.mem.c s.mem p v _ ((mem_of hS.mem hk.mem).below hb0) (by omega) hp hv
  have ht1 : (Me.tC h.mem.n p != 0) = true := by rw [← hl]; simpa using ht
  rw [hl]
  replace hC := Lib.hid (hC.mono (R' := fun e w3 => ∃ a n c, e = .returned (.tuple #[.slice a n c, .int .i64 (Me.tC h.mem.n p)]) ∧ Bx w3 (w.heap.size + 1) 28 zst ∧ w3.cell? ⟨w.heap.size, 0, none⟩ = some h.mem.val ∧ Below w.heap.size w w3) fun e w3 hh => by
    obtain ⟨a, c, rfl, hM, hb⟩ := hh
    exact ⟨a, _, c, rfl, b2.below hb b2.lt, (b1.below hb b1.lt).cell 0 rfl, hb0.trans (hb.mono hb0.size)⟩)
  clear b1 b2 hb0 ht hS hk hp hv hl hm
  generalize Me.tC h.mem.n p = t at *
  go_enter Tryd.func58, Tryd.ntmps58
  go_wp2_with (first | (go_at_call 66; (with_reducible refine hC.out.mono ?_); rintro e w3 ⟨a3, n3, c3, rfl, q2, q3, q6⟩; replace q6 := Lib.hid q6; replace q2 := Lib.hid q2) | (refine wpList_store_row rfl 28 (.tmp 6) (.tmp 20) rfl (w.heap.size + 1) zst rfl rfl _ _ q2.out stinfo rfl (cst_one Hs.zero St.zero) ?_))
  refine bodyPost_ret (results_row2 rfl _ _ (w.heap.size + 1) 28 _ _ _ rfl rfl (q2.out.row _) Tryd.underlying28 rfl stinfo) rfl ⟨rfl, below_setRow q6.out (by omega) _⟩

theorem comma_full (h : Hs) (s : St) (v : Int) (w : World) (hS : StIs w h s) (hk : s.ok) (hm : s.mem.length ≤ 1000000) (hf : (s.mem.length : Int) - 8 < s.here) :
    Calls Tryd.prog 67 #[.agg (cst h s), .int .i64 v] w (NoEnd w (-8)) := by
  have hl : s.mem.length = h.mem.n := Fl.len hS.mem (fun _ => rfl) (by decide)
  rw [hl] at hf hm
  obtain ⟨b1, b2, hb0⟩ := boxes w (cst h s) zst 28
  have q2 := Lib.hid b2
  have q6 := Lib.hid hb0
  have hh := hk.here
  clear b1 b2 hb0 hS hk hl
  go_enter Tryd.func67, Tryd.ntmps67
  go_wp2_with (refine wpList_store_row rfl 28 (.tmp 4) (.tmp 14) rfl (w.heap.size + 1) zst rfl rfl _ _ q2.out stinfo rfl (cst_one Hs.zero St.zero) ?_)
  refine bodyPost_ret (results_row2 rfl _ _ (w.heap.size + 1) 28 _ _ _ rfl rfl (q2.out.row _) Tryd.underlying28 rfl stinfo) rfl ⟨rfl, below_setRow q6.out (by omega) _⟩
theorem comma_no (h : Hs) (s : St) (v : Int) (w : World) (hS : StIs w h s) (hk : s.ok) (hm : s.mem.length ≤ 1000000) (hv : C64 v) (hf : ¬ (s.mem.length : Int) - 8 < s.here) (ht : Me.tC s.mem.length s.here ≠ 0) :
    Calls Tryd.prog 67 #[.agg (cst h s), .int .i64 v] w (NoEnd w (Me.tC s.mem.length s.here)) := by
  have hl : s.mem.length = h.mem.n := Fl.len hS.mem (fun _ => rfl) (by decide)
  obtain ⟨b1, b2, hb0⟩ := boxes w (cst h s) zst 28
  have hP := patch_no h s s.here v _ (hS.below hb0) hk hm hk.here hv ht
  have hh := hk.here
  replace hP := Lib.hid (hP.mono (R' := fun e w3 => e = .returned (.tuple #[.agg zst, .int .i64 (Me.tC s.mem.length s.here)]) ∧ Bx w3 w.heap.size 28 (cst h s) ∧ Bx (w3.setRow w.heap.size zst) (w.heap.size + 1) 28 zst ∧ Below w.heap.size w (w3.setRow w.heap.size zst)) fun e w3 hh => by
    obtain ⟨rfl, hb⟩ := hh
    have hb' := hb0.trans (hb.mono hb0.size)
    have c1 := b1.below hb b1.lt
    have c2 := b2.below hb b2.lt
    exact ⟨rfl, c1, c2.rowOther _ (by omega), below_setRow hb' (Nat.le_refl _) _⟩)
  have k1 := Lib.hid b1
  have ht1 : (Me.tC s.mem.length s.here != 0) = true := by simpa using ht
  generalize Me.tC s.mem.length s.here = t at *
  rw [hl] at hf hm
  clear b1 b2 hb0 hS hk hv hl ht
  go_enter Tryd.func67, Tryd.ntmps67
  go_wp2_with (first | (refine wpList_load_row rfl 28 (.tmp 2) rfl w.heap.size rfl _ _ _ _ k1.out Tryd.underlying28 rfl stinfo ?_) | (go_at_call 58; (with_reducible refine hP.out.mono ?_); rintro e w3 ⟨rfl, q1, q2, q6⟩; replace q1 := Lib.hid q1; replace q2 := Lib.hid q2; replace q6 := Lib.hid q6) | (refine wpList_store_row rfl 28 (.tmp 2) (.tmp 21) rfl w.heap.size zst rfl rfl _ _ q1.out stinfo rfl (cst_one Hs.zero St.zero) ?_) | (refine wpList_store_row rfl 28 (.tmp 4) (.tmp 25) rfl (w.heap.size + 1) zst rfl rfl _ _ q2.out stinfo rfl (cst_one Hs.zero St.zero) ?_))
  refine bodyPost_ret (results_row2 rfl _ _ (w.heap.size + 1) 28 _ _ _ rfl rfl (q2.out.row _) Tryd.underlying28 rfl stinfo) rfl ⟨rfl, below_setRow q6.out (by omega) _⟩
theorem comma_okf (h : Hs) (s : St) (v : Int) (w : World) (hS : StIs w h s) (hk : s.ok) (hm : s.mem.length ≤ 1000000) (hv : C64 v) (hf : ¬ (s.mem.length : Int) - 8 < s.here) (ht : Me.tC s.mem.length s.here = 0) :
    Calls Tryd.prog 67 #[.agg (cst h s), .int .i64 v] w (PatF w h { s with mem := Me.setC s.mem s.here v, here := s.here + 8 }) := by
  have hl : s.mem.length = h.mem.n := Fl.len hS.mem (fun _ => rfl) (by decide)
  obtain ⟨b1, b2, hb0⟩ := boxes w (cst h s) zst 28
  have hP := patch_okf h s s.here v _ (hS.below hb0) hk hm hk.here hv ht
  have hh := hk.here
  generalize Me.setC s.mem s.here v = m at *
  replace hP := Lib.hid (hP.mono (R' := fun e w3 => ∃ x, e = .returned (.tuple #[.agg (cst { h with mem := x } { s with mem := m }), .int .i64 0]) ∧
      Bx w3 w.heap.size 28 (cst h s) ∧
      (w3.setRow w.heap.size (cst { h with mem := x } { s with mem := m })).cell? ⟨w.heap.size, 8, none⟩ = some (.int .i64 s.here) ∧
      (w3.setRow w.heap.size (cst { h with mem := x } { s with mem := m })).frozen? ⟨w.heap.size, 8, none⟩ = false ∧
      Bx ((w3.setRow w.heap.size (cst { h with mem := x } { s with mem := m })).setCell ⟨w.heap.size, 8, none⟩ (.int .i64 (s.here + 8))) w.heap.size 28 (cst { h with mem := x } { s with mem := m, here := s.here + 8 }) ∧
      Bx ((w3.setRow w.heap.size (cst { h with mem := x } { s with mem := m })).setCell ⟨w.heap.size, 8, none⟩ (.int .i64 (s.here + 8))) (w.heap.size + 1) 28 zst ∧
      Fl (one .u8) 1 (((w3.setRow w.heap.size (cst { h with mem := x } { s with mem := m })).setCell ⟨w.heap.size, 8, none⟩ (.int .i64 (s.here + 8))).setRow (w.heap.size + 1) (cst { h with mem := x } { s with mem := m, here := s.here + 8 })) x m ∧
      Below w.heap.size w (((w3.setRow w.heap.size (cst { h with mem := x } { s with mem := m })).setCell ⟨w.heap.size, 8, none⟩ (.int .i64 (s.here + 8))).setRow (w.heap.size + 1) (cst { h with mem := x } { s with mem := m, here := s.here + 8 })) ∧ ∀ y, x.a = some y → w.heap.size ≤ y.block) fun e w3 hh => by
    obtain ⟨x, rfl, hx, hb, hfr⟩ := hh
    have hb' := hb0.trans (hb.mono hb0.size)
    have c1 := b1.below hb b1.lt
    have c2 := b2.below hb b2.lt
    have r1 := c1.row (cst { h with mem := x } { s with mem := m })
    have n2 := c2.rowOther (cst { h with mem := x } { s with mem := m }) (show w.heap.size + 1 ≠ w.heap.size by omega)
    refine ⟨x, rfl, c1, r1.cell 8 rfl, r1.free 8, r1.set 8 _, n2.setOther _ _ (by simp), mem_keep hx w.heap.size (w.heap.size + 1) c1 c2 (cst_nob _ _) zst_nob (fun k k1 k2 => (setRow_other _ _ k _ k2).trans ((heap_set_other _ _ _ k1).trans (setRow_other _ _ k _ k1))), ?_, fun y hy => Nat.le_trans hb0.size (hfr y hy)⟩
    exact below_setRow ((below_setRow hb' (Nat.le_refl _) _).setCell (p := ⟨w.heap.size, 8, none⟩) (Nat.le_refl _) _) (by omega) _)
  have k1 := Lib.hid b1
  rw [hl] at hf hm
  have hw : -9223372036854775808 ≤ s.here + 8 ∧ s.here + 8 ≤ 9223372036854775807 := by unfold C64 at hh; omega
  clear b1 b2 hb0 hS hk hv hl ht
  go_enter Tryd.func67, Tryd.ntmps67
  go_wp2_with (first | (refine wpList_load_row rfl 28 (.tmp 2) rfl w.heap.size rfl _ _ _ _ k1.out Tryd.underlying28 rfl stinfo ?_) | (go_at_call 58; (with_reducible refine hP.out.mono ?_); rintro e w3 ⟨x, rfl, q1, l2, l3, q4, q2, q5, q6, q7⟩; replace q7 := Lib.hid q7; replace q1 := Lib.hid q1; replace q2 := Lib.hid q2; replace q4 := Lib.hid q4; replace q5 := Lib.hid q5; replace q6 := Lib.hid q6) | (refine wpList_store_row rfl 28 (.tmp 2) (.tmp 21) rfl w.heap.size _ rfl rfl _ _ q1.out stinfo rfl (cst_one _ _) ?_) | (refine wpList_load_row rfl 28 (.tmp 2) rfl w.heap.size rfl _ _ _ _ q4.out Tryd.underlying28 rfl stinfo ?_) | (refine wpList_store_row rfl 28 (.tmp 4) (.tmp 31) rfl (w.heap.size + 1) _ rfl rfl _ _ q2.out stinfo rfl (cst_one _ _) ?_))
  refine bodyPost_ret (results_row2 rfl _ _ (w.heap.size + 1) 28 _ _ _ rfl rfl (q2.out.row _) Tryd.underlying28 rfl stinfo) rfl ⟨x, rfl, q5.out, q6.out, q7.out⟩
theorem comma_ok (h : Hs) (s : St) (v : Int) (w : World) (hS : StIs w h s) (hk : s.ok) (hm : s.mem.length ≤ 1000000) (hv : C64 v) (hf : ¬ (s.mem.length : Int) - 8 < s.here) (ht : Me.tC s.mem.length s.here = 0) :
    Calls Tryd.prog 67 #[.agg (cst h s), .int .i64 v] w (PatEnd w h { s with mem := Me.setC s.mem s.here v, here := s.here + 8 }) := (comma_okf h s v w hS hk hm hv hf ht).mono fun e w' hh => hh.end_
end Go.Proofs.YtcjbfokindoicaaDoor
