/- The program's list of the spots below an address. -/
import Derived.Test.YtcjbfokindoicaaDoorEmitA
namespace Go.Proofs.YtcjbfokindoicaaDoor
set_option maxRecDepth 100000
open Go.ChangeShapes Go.WideShapes Go.ChangeAt Go.RowKit
open On (St Hs StIs cst Fl one C64 C8 Sc slc spc Oz Sz wpList_append_run)
set_option linter.unusedVariables false
set_option maxRecDepth 100000

theorem make_spots (N : Nat) (hN : N ≤ 100000) (W : World) : (Instr.makeSlice 26 (.int .i64 0) (.int .i64 (N : Int))).run Tryd.prog W = .ok (.slice (some ⟨W.heap.size, 0, none⟩) 0 N) (W.alloc (.cells (madeCells (Value.agg #[.int .i64 0, .int .i64 0]).cells (N * 2)) 85)) := by
  obtain ⟨i, hi, hz0, hz1, hz2⟩ := info_parts spotinfo
  have h := run_make (P := Tryd.prog) W 26 85 i _ Tryd.underlying26 hi hz0 .i64 .i64 0 N (by omega) (by omega) (by rw [hz2]; omega) (by omega)
  simp only [Int.toNat_natCast, hz1] at h
  exact h
theorem keepS_nxt (h : Int) (l : List (Int × Int)) {j : Nat} (hj : j < l.length) : keepS h (l.take (j + 1)) = keepS h (l.take j) ++ (if (l.getD j default).1 < h then [l.getD j default] else []) := by
  have e : l.getD j default = l[j] := by simp [List.getD, hj]
  unfold keepS
  rw [List.take_add_one, List.getElem?_eq_getElem hj, List.filter_append, e]
  simp only [Option.toList_some, List.filter_cons, List.filter_nil]
  split <;> simp_all
theorem madeCells_size (a : Array Value) (N : Nat) : (madeCells a N).size = N := by
  simp [madeCells]
/-- spots below p, in a row of the call's own -/
def KeepEnd (w : World) (n : Nat) (vs : List Value) (e : Ending) (w' : World) : Prop := ∃ a m c, e = .returned (.slice a m c) ∧ m ≤ n ∧ Oz w' w.heap.size 85 2 a m c vs ∧ Below w.heap.size w w'
set_option maxHeartbeats 1000000 in
theorem below_any (x : Sc) (l : List (Int × Int)) (p : Int) (w : World) (hx : Fl spc 2 w x l) (hl : ∀ z ∈ l, C64 z.1 ∧ C64 z.2) (hn : x.n ≤ 60000) (hp : C64 p) :
    Calls Tryd.prog 68 #[x.val, .int .i64 p] w (KeepEnd w x.n ((keepS p l).flatMap spc)) := by
  obtain ⟨xa, n, xc⟩ := x
  have hln : l.length = n := Fl.len hx On.spc_len (by decide)
  have hbx := hx.bd
  dsimp only at hbx hn
  show Calls Tryd.prog 68 #[.slice xa n xc, .int .i64 p] w (KeepEnd w n ((keepS p l).flatMap spc))
  have hmk : ∀ W : World, (Instr.makeSlice 26 (.int .i64 0) (.int .i64 ((n : Int) + 1))).run Tryd.prog W = .ok (.slice (some ⟨W.heap.size, 0, none⟩) 0 (n + 1)) (W.alloc (.cells (madeCells (Value.agg #[.int .i64 0, .int .i64 0]).cells ((n + 1) * 2)) 85)) := fun W => make_spots (n + 1) (by omega) W
  have r1 := Lib.hid hx
  have r2 := Lib.hid hln
  have r3 := Lib.hid hl
  have r4 := Lib.hid (madeCells_size (Value.agg #[.int .i64 0, .int .i64 0]).cells ((n + 1) * 2))
  clear hx hln hl
  go_enter Tryd.func68, Tryd.ntmps68
  go_wp2
  go_loopw [5, 14] (fun sl i wx => ∃ (j m : Nat) (a : Option Addr) (cap : Nat), j ≤ n ∧ i = .int .i64 j ∧ sl = .slice a m cap ∧ m ≤ j ∧ Hid (Oz wx w.heap.size 85 2 a m cap ((keepS p (l.take j)).flatMap spc)) ∧ Hid (Below w.heap.size w wx)) (fun _ i _ => n - (intOf i).toNat)
  case atStart => exact ⟨0, 0, _, _, Nat.zero_le _, rfl, rfl, Nat.le_refl _, Lib.hid (Oz.made w _ _ _ (Nat.le_refl _) _ (n + 1) (by unfold maxLen; omega) r4.out), Lib.hid ((Below.refl _ _).alloc (Nat.le_refl _) _)⟩
  case round =>
    obtain ⟨j, m, a, cap, hj, rfl, rfl, hmj, hO, hB⟩ := hrel
    clear hmk
    by_cases hj1 : j < n
    · obtain ⟨b2, o2, ha2, p0, p1⟩ := spots_cell (r1.out.below hB.out) (i := j) hj1
      dsimp only at ha2
      subst ha2
      have hkn := Lib.hid (keepS_nxt p l (j := j) (by have := r2.out; omega))
      rcases hy : l.getD j default with ⟨y0, y1⟩
      rw [hy] at p0 p1 hkn
      dsimp only at p0 p1
      have hO1 := Lib.hid (hO.out.alloc (.cells #[.int .i64 y0, .int .i64 y1] 85))
      have hB1 := Lib.hid (hB.out.alloc hB.out.size (.cells #[.int .i64 y0, .int .i64 y1] 85))
      by_cases hlt : y0 < p
      · rw [if_pos hlt] at hkn
        obtain ⟨a', cap', w2, happ, hO2, hB2⟩ := spot_app (y0, y1) hO1.out (by omega) hB1.out.size 26
        rw [show (wr.alloc (.cells #[.int .i64 y0, .int .i64 y1] 85)).heap.size = wr.heap.size + 1 by simp] at happ
        dsimp only at happ
        have happ' := Lib.hid happ
        clear happ
        have hO3 : Hid (Oz w2 w.heap.size 85 2 a' (m + 1) cap' ((keepS p (l.take (j + 1))).flatMap spc)) := Lib.hid (by rw [hkn.out, List.flatMap_append]; exact hO2)
        have hB3 := Lib.hid (hB1.out.trans hB2)
        clear hO2 hB2
        go_wp2_with (at_builtin; refine wpList_append_run rfl (.tmp 22) (.tmp 24) 26 rfl _ _ _ rfl rfl happ'.out ?_)
        exact ⟨⟨j + 1, m + 1, a', cap', by omega, by go_num, rfl, by omega, hO3, hB3⟩, by simp only [intOf]; omega⟩
      · rw [if_neg hlt, List.append_nil] at hkn
        go_wp2
        have hO3 : Hid (Oz _ w.heap.size 85 2 a m cap ((keepS p (l.take (j + 1))).flatMap spc)) := Lib.hid (by rw [hkn.out]; exact hO1.out)
        exact ⟨⟨j + 1, m, a, cap, by omega, by go_num, rfl, by omega, hO3, hB1⟩, by simp only [intOf]; omega⟩
    · obtain rfl : n = j := by omega
      have htk : l.take n = l := List.take_of_length_le (by have := r2.out; omega)
      rw [htk] at hO
      go_wp2
      go_ret
      exact ⟨_, _, _, rfl, hmj, hO.out, hB.out⟩
end Go.Proofs.YtcjbfokindoicaaDoor
