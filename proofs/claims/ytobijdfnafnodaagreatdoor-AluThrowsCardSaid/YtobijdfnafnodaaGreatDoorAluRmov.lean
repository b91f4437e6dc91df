/- The document's moves. Written by wip/gen/aluref.py. -/
import Derived.Test.YtobijdfnafnodaaGreatDoorAluPhi
import Derived.StillTailTactics
namespace Go.Proofs.YtobijdfnafnodaaGreatDoor
set_option maxRecDepth 100000
open Go.ChangeShapes Go.WideShapes Go.ChangeAt Go.RowKit
open Sk (Sl ints Own)
set_option linter.unusedVariables false

theorem rmov_13 (va : Option Addr) (vc : Nat) (vs : List Int) (w : World) (h : Sl w va 1 vc (ints vs)) : Calls Tryz.prog 37 #[.int .i64 13, .slice va 1 vc] w (fun e w' => ∃ a n c, e = .returned (.tuple #[.slice a n c, .bool true]) ∧ Sl w' a n c (ints (cho [0, 0] vs)) ∧ Below w.heap.size w w') := by
  have hn := h.nums
  have hbd := h.bd
  obtain ⟨b, o, rfl, g0⟩ := h.int (i := 0) (by omega)
  have hdr : Below w.heap.size w w.drew := (Below.refl _ _).drew
  show Calls _ _ _ _ (fun e w' => ∃ a n c, e = .returned (.tuple #[.slice a n c, .bool true]) ∧ Sl w' a n c (ints [vs.getD 0 0, vs.getD 0 0]) ∧ Below w.heap.size w w')
  generalize vs.getD 0 0 = x0 at *
  simp only [Nat.add_zero] at g0
  obtain ⟨f1, f2⟩ := Sk.fresh w.drew [x0, x0] (by simp)
  replace f1 := Lib.hid f1
  replace f2 := Lib.hid f2
  clear h hn
  go_enter Tryz.func37, Tryz.ntmps37
  go_wp2
  go_still_tail 6, (by kernel_rfl)
  change wpList _ _ _ _ _ w.drew
  generalize w.drew = w2 at *
  go_wp2
  go_ret2
  exact ⟨_, _, _, rfl, f1.out, hdr.trans (f2.out.mono hdr.size)⟩
theorem rmov_14 (va : Option Addr) (vc : Nat) (vs : List Int) (w : World) (h : Sl w va 1 vc (ints vs)) : Calls Tryz.prog 37 #[.int .i64 14, .slice va 1 vc] w (fun e w' => ∃ a n c, e = .returned (.tuple #[.slice a n c, .bool true]) ∧ Sl w' a n c (ints (cho [] vs)) ∧ Below w.heap.size w w') := by
  clear h
  go_enter Tryz.func37, Tryz.ntmps37
  go_wp2
  go_ret2
  exact ⟨_, _, _, rfl, Sk.Sl.zero _, Below.refl _ _⟩
theorem rmov_15 (va : Option Addr) (vc : Nat) (vs : List Int) (w : World) (h : Sl w va 2 vc (ints vs)) : Calls Tryz.prog 37 #[.int .i64 15, .slice va 2 vc] w (fun e w' => ∃ a n c, e = .returned (.tuple #[.slice a n c, .bool true]) ∧ Sl w' a n c (ints (cho [1, 0] vs)) ∧ Below w.heap.size w w') := by
  have hn := h.nums
  have hbd := h.bd
  obtain ⟨b, o, rfl, g0⟩ := h.int (i := 0) (by omega)
  obtain ⟨b', o', e', g1⟩ := h.int (i := 1) (by omega)
  simp only [Option.some.injEq, Addr.mk.injEq, and_true] at e'
  obtain ⟨rfl, rfl⟩ := e'
  have hdr : Below w.heap.size w w.drew := (Below.refl _ _).drew
  show Calls _ _ _ _ (fun e w' => ∃ a n c, e = .returned (.tuple #[.slice a n c, .bool true]) ∧ Sl w' a n c (ints [vs.getD 1 0, vs.getD 0 0]) ∧ Below w.heap.size w w')
  generalize vs.getD 0 0 = x0 at *
  generalize vs.getD 1 0 = x1 at *
  simp only [Nat.add_zero] at g0
  obtain ⟨f1, f2⟩ := Sk.fresh w.drew [x1, x0] (by simp)
  replace f1 := Lib.hid f1
  replace f2 := Lib.hid f2
  clear h hn
  go_enter Tryz.func37, Tryz.ntmps37
  go_wp2
  go_still_tail 6, (by kernel_rfl)
  change wpList _ _ _ _ _ w.drew
  generalize w.drew = w2 at *
  go_wp2
  go_ret2
  exact ⟨_, _, _, rfl, f1.out, hdr.trans (f2.out.mono hdr.size)⟩
theorem rmov_16 (va : Option Addr) (vc : Nat) (vs : List Int) (w : World) (h : Sl w va 2 vc (ints vs)) : Calls Tryz.prog 37 #[.int .i64 16, .slice va 2 vc] w (fun e w' => ∃ a n c, e = .returned (.tuple #[.slice a n c, .bool true]) ∧ Sl w' a n c (ints (cho [0, 1, 0] vs)) ∧ Below w.heap.size w w') := by
  have hn := h.nums
  have hbd := h.bd
  obtain ⟨b, o, rfl, g0⟩ := h.int (i := 0) (by omega)
  obtain ⟨b', o', e', g1⟩ := h.int (i := 1) (by omega)
  simp only [Option.some.injEq, Addr.mk.injEq, and_true] at e'
  obtain ⟨rfl, rfl⟩ := e'
  have hdr : Below w.heap.size w w.drew := (Below.refl _ _).drew
  show Calls _ _ _ _ (fun e w' => ∃ a n c, e = .returned (.tuple #[.slice a n c, .bool true]) ∧ Sl w' a n c (ints [vs.getD 0 0, vs.getD 1 0, vs.getD 0 0]) ∧ Below w.heap.size w w')
  generalize vs.getD 0 0 = x0 at *
  generalize vs.getD 1 0 = x1 at *
  simp only [Nat.add_zero] at g0
  obtain ⟨f1, f2⟩ := Sk.fresh w.drew [x0, x1, x0] (by simp)
  replace f1 := Lib.hid f1
  replace f2 := Lib.hid f2
  clear h hn
  go_enter Tryz.func37, Tryz.ntmps37
  go_wp2
  go_still_tail 9, (by kernel_rfl)
  change wpList _ _ _ _ _ w.drew
  generalize w.drew = w2 at *
  go_wp2
  go_ret2
  exact ⟨_, _, _, rfl, f1.out, hdr.trans (f2.out.mono hdr.size)⟩
theorem rmov_17 (va : Option Addr) (vc : Nat) (vs : List Int) (w : World) (h : Sl w va 3 vc (ints vs)) : Calls Tryz.prog 37 #[.int .i64 17, .slice va 3 vc] w (fun e w' => ∃ a n c, e = .returned (.tuple #[.slice a n c, .bool true]) ∧ Sl w' a n c (ints (cho [1, 2, 0] vs)) ∧ Below w.heap.size w w') := by
  have hn := h.nums
  have hbd := h.bd
  obtain ⟨b, o, rfl, g0⟩ := h.int (i := 0) (by omega)
  obtain ⟨b', o', e', g1⟩ := h.int (i := 1) (by omega)
  simp only [Option.some.injEq, Addr.mk.injEq, and_true] at e'
  obtain ⟨rfl, rfl⟩ := e'
  obtain ⟨b', o', e', g2⟩ := h.int (i := 2) (by omega)
  simp only [Option.some.injEq, Addr.mk.injEq, and_true] at e'
  obtain ⟨rfl, rfl⟩ := e'
  have hdr : Below w.heap.size w w.drew := (Below.refl _ _).drew
  show Calls _ _ _ _ (fun e w' => ∃ a n c, e = .returned (.tuple #[.slice a n c, .bool true]) ∧ Sl w' a n c (ints [vs.getD 1 0, vs.getD 2 0, vs.getD 0 0]) ∧ Below w.heap.size w w')
  generalize vs.getD 0 0 = x0 at *
  generalize vs.getD 1 0 = x1 at *
  generalize vs.getD 2 0 = x2 at *
  simp only [Nat.add_zero] at g0
  obtain ⟨f1, f2⟩ := Sk.fresh w.drew [x1, x2, x0] (by simp)
  replace f1 := Lib.hid f1
  replace f2 := Lib.hid f2
  clear h hn
  go_enter Tryz.func37, Tryz.ntmps37
  go_wp2
  go_still_tail 9, (by kernel_rfl)
  change wpList _ _ _ _ _ w.drew
  generalize w.drew = w2 at *
  go_wp2
  go_ret2
  exact ⟨_, _, _, rfl, f1.out, hdr.trans (f2.out.mono hdr.size)⟩
theorem rmov_18 (va : Option Addr) (vc : Nat) (vs : List Int) (w : World) (h : Sl w va 2 vc (ints vs)) : Calls Tryz.prog 37 #[.int .i64 18, .slice va 2 vc] w (fun e w' => ∃ a n c, e = .returned (.tuple #[.slice a n c, .bool true]) ∧ Sl w' a n c (ints (cho [1] vs)) ∧ Below w.heap.size w w') := by
  have hn := h.nums
  have hbd := h.bd
  obtain ⟨b, o, rfl, g0⟩ := h.int (i := 0) (by omega)
  obtain ⟨b', o', e', g1⟩ := h.int (i := 1) (by omega)
  simp only [Option.some.injEq, Addr.mk.injEq, and_true] at e'
  obtain ⟨rfl, rfl⟩ := e'
  have hdr : Below w.heap.size w w := Below.refl _ _
  show Calls _ _ _ _ (fun e w' => ∃ a n c, e = .returned (.tuple #[.slice a n c, .bool true]) ∧ Sl w' a n c (ints [vs.getD 1 0]) ∧ Below w.heap.size w w')
  generalize vs.getD 0 0 = x0 at *
  generalize vs.getD 1 0 = x1 at *
  simp only [Nat.add_zero] at g0
  obtain ⟨f1, f2⟩ := Sk.fresh w [x1] (by simp)
  replace f1 := Lib.hid f1
  replace f2 := Lib.hid f2
  clear h hn
  go_enter Tryz.func37, Tryz.ntmps37
  go_wp2
  go_ret2
  exact ⟨_, _, _, rfl, f1.out, hdr.trans (f2.out.mono hdr.size)⟩
theorem rmov_19 (va : Option Addr) (vc : Nat) (vs : List Int) (w : World) (h : Sl w va 2 vc (ints vs)) : Calls Tryz.prog 37 #[.int .i64 19, .slice va 2 vc] w (fun e w' => ∃ a n c, e = .returned (.tuple #[.slice a n c, .bool true]) ∧ Sl w' a n c (ints (cho [1, 0, 1] vs)) ∧ Below w.heap.size w w') := by
  have hn := h.nums
  have hbd := h.bd
  obtain ⟨b, o, rfl, g0⟩ := h.int (i := 0) (by omega)
  obtain ⟨b', o', e', g1⟩ := h.int (i := 1) (by omega)
  simp only [Option.some.injEq, Addr.mk.injEq, and_true] at e'
  obtain ⟨rfl, rfl⟩ := e'
  have hdr : Below w.heap.size w w.drew := (Below.refl _ _).drew
  show Calls _ _ _ _ (fun e w' => ∃ a n c, e = .returned (.tuple #[.slice a n c, .bool true]) ∧ Sl w' a n c (ints [vs.getD 1 0, vs.getD 0 0, vs.getD 1 0]) ∧ Below w.heap.size w w')
  generalize vs.getD 0 0 = x0 at *
  generalize vs.getD 1 0 = x1 at *
  simp only [Nat.add_zero] at g0
  obtain ⟨f1, f2⟩ := Sk.fresh w.drew [x1, x0, x1] (by simp)
  replace f1 := Lib.hid f1
  replace f2 := Lib.hid f2
  clear h hn
  go_enter Tryz.func37, Tryz.ntmps37
  go_wp2
  go_still_tail 9, (by kernel_rfl)
  change wpList _ _ _ _ _ w.drew
  generalize w.drew = w2 at *
  go_wp2
  go_ret2
  exact ⟨_, _, _, rfl, f1.out, hdr.trans (f2.out.mono hdr.size)⟩
theorem rmov_21 (va : Option Addr) (vc : Nat) (vs : List Int) (w : World) (h : Sl w va 2 vc (ints vs)) : Calls Tryz.prog 37 #[.int .i64 21, .slice va 2 vc] w (fun e w' => ∃ a n c, e = .returned (.tuple #[.slice a n c, .bool true]) ∧ Sl w' a n c (ints (cho [0, 1, 0, 1] vs)) ∧ Below w.heap.size w w') := by
  have hn := h.nums
  have hbd := h.bd
  obtain ⟨b, o, rfl, g0⟩ := h.int (i := 0) (by omega)
  obtain ⟨b', o', e', g1⟩ := h.int (i := 1) (by omega)
  simp only [Option.some.injEq, Addr.mk.injEq, and_true] at e'
  obtain ⟨rfl, rfl⟩ := e'
  have hdr : Below w.heap.size w w.drew := (Below.refl _ _).drew
  show Calls _ _ _ _ (fun e w' => ∃ a n c, e = .returned (.tuple #[.slice a n c, .bool true]) ∧ Sl w' a n c (ints [vs.getD 0 0, vs.getD 1 0, vs.getD 0 0, vs.getD 1 0]) ∧ Below w.heap.size w w')
  generalize vs.getD 0 0 = x0 at *
  generalize vs.getD 1 0 = x1 at *
  simp only [Nat.add_zero] at g0
  obtain ⟨f1, f2⟩ := Sk.fresh w.drew [x0, x1, x0, x1] (by simp)
  replace f1 := Lib.hid f1
  replace f2 := Lib.hid f2
  clear h hn
  go_enter Tryz.func37, Tryz.ntmps37
  go_wp2
  go_still_tail 12, (by kernel_rfl)
  change wpList _ _ _ _ _ w.drew
  generalize w.drew = w2 at *
  go_wp2
  go_ret2
  exact ⟨_, _, _, rfl, f1.out, hdr.trans (f2.out.mono hdr.size)⟩
theorem rmov_22 (va : Option Addr) (vc : Nat) (vs : List Int) (w : World) (h : Sl w va 2 vc (ints vs)) : Calls Tryz.prog 37 #[.int .i64 22, .slice va 2 vc] w (fun e w' => ∃ a n c, e = .returned (.tuple #[.slice a n c, .bool true]) ∧ Sl w' a n c (ints (cho [] vs)) ∧ Below w.heap.size w w') := by
  clear h
  go_enter Tryz.func37, Tryz.ntmps37
  go_wp2
  go_ret2
  exact ⟨_, _, _, rfl, Sk.Sl.zero _, Below.refl _ _⟩
theorem rmov_23 (va : Option Addr) (vc : Nat) (vs : List Int) (w : World) (h : Sl w va 4 vc (ints vs)) : Calls Tryz.prog 37 #[.int .i64 23, .slice va 4 vc] w (fun e w' => ∃ a n c, e = .returned (.tuple #[.slice a n c, .bool true]) ∧ Sl w' a n c (ints (cho [2, 3, 0, 1] vs)) ∧ Below w.heap.size w w') := by
  have hn := h.nums
  have hbd := h.bd
  obtain ⟨b, o, rfl, g0⟩ := h.int (i := 0) (by omega)
  obtain ⟨b', o', e', g1⟩ := h.int (i := 1) (by omega)
  simp only [Option.some.injEq, Addr.mk.injEq, and_true] at e'
  obtain ⟨rfl, rfl⟩ := e'
  obtain ⟨b', o', e', g2⟩ := h.int (i := 2) (by omega)
  simp only [Option.some.injEq, Addr.mk.injEq, and_true] at e'
  obtain ⟨rfl, rfl⟩ := e'
  obtain ⟨b', o', e', g3⟩ := h.int (i := 3) (by omega)
  simp only [Option.some.injEq, Addr.mk.injEq, and_true] at e'
  obtain ⟨rfl, rfl⟩ := e'
  have hdr : Below w.heap.size w w.drew := (Below.refl _ _).drew
  show Calls _ _ _ _ (fun e w' => ∃ a n c, e = .returned (.tuple #[.slice a n c, .bool true]) ∧ Sl w' a n c (ints [vs.getD 2 0, vs.getD 3 0, vs.getD 0 0, vs.getD 1 0]) ∧ Below w.heap.size w w')
  generalize vs.getD 0 0 = x0 at *
  generalize vs.getD 1 0 = x1 at *
  generalize vs.getD 2 0 = x2 at *
  generalize vs.getD 3 0 = x3 at *
  simp only [Nat.add_zero] at g0
  obtain ⟨f1, f2⟩ := Sk.fresh w.drew [x2, x3, x0, x1] (by simp)
  replace f1 := Lib.hid f1
  replace f2 := Lib.hid f2
  clear h hn
  go_enter Tryz.func37, Tryz.ntmps37
  go_wp2
  go_still_tail 12, (by kernel_rfl)
  change wpList _ _ _ _ _ w.drew
  generalize w.drew = w2 at *
  go_wp2
  go_ret2
  exact ⟨_, _, _, rfl, f1.out, hdr.trans (f2.out.mono hdr.size)⟩
theorem rmov_24 (va : Option Addr) (vc : Nat) (vs : List Int) (w : World) (h : Sl w va 4 vc (ints vs)) : Calls Tryz.prog 37 #[.int .i64 24, .slice va 4 vc] w (fun e w' => ∃ a n c, e = .returned (.tuple #[.slice a n c, .bool true]) ∧ Sl w' a n c (ints (cho [0, 1, 2, 3, 0, 1] vs)) ∧ Below w.heap.size w w') := by
  have hn := h.nums
  have hbd := h.bd
  obtain ⟨b, o, rfl, g0⟩ := h.int (i := 0) (by omega)
  obtain ⟨b', o', e', g1⟩ := h.int (i := 1) (by omega)
  simp only [Option.some.injEq, Addr.mk.injEq, and_true] at e'
  obtain ⟨rfl, rfl⟩ := e'
  obtain ⟨b', o', e', g2⟩ := h.int (i := 2) (by omega)
  simp only [Option.some.injEq, Addr.mk.injEq, and_true] at e'
  obtain ⟨rfl, rfl⟩ := e'
  obtain ⟨b', o', e', g3⟩ := h.int (i := 3) (by omega)
  simp only [Option.some.injEq, Addr.mk.injEq, and_true] at e'
  obtain ⟨rfl, rfl⟩ := e'
  have hdr : Below w.heap.size w w.drew := (Below.refl _ _).drew
  show Calls _ _ _ _ (fun e w' => ∃ a n c, e = .returned (.tuple #[.slice a n c, .bool true]) ∧ Sl w' a n c (ints [vs.getD 0 0, vs.getD 1 0, vs.getD 2 0, vs.getD 3 0, vs.getD 0 0, vs.getD 1 0]) ∧ Below w.heap.size w w')
  generalize vs.getD 0 0 = x0 at *
  generalize vs.getD 1 0 = x1 at *
  generalize vs.getD 2 0 = x2 at *
  generalize vs.getD 3 0 = x3 at *
  simp only [Nat.add_zero] at g0
  obtain ⟨f1, f2⟩ := Sk.fresh w.drew [x0, x1, x2, x3, x0, x1] (by simp)
  replace f1 := Lib.hid f1
  replace f2 := Lib.hid f2
  clear h hn
  go_enter Tryz.func37, Tryz.ntmps37
  go_wp2
  go_still_tail 18, (by kernel_rfl)
  change wpList _ _ _ _ _ w.drew
  generalize w.drew = w2 at *
  go_wp2
  go_ret2
  exact ⟨_, _, _, rfl, f1.out, hdr.trans (f2.out.mono hdr.size)⟩
theorem rmov_20 (va : Option Addr) (vc : Nat) (vs : List Int) (w : World) (h : Sl w va 1 vc (ints vs)) : Calls Tryz.prog 37 #[.int .i64 20, .slice va 1 vc] w (fun e w' => ∃ a n c, e = .returned (.tuple #[.slice a n c, .bool true]) ∧ Sl w' a n c (ints (if vs.getD 0 0 = 0 then vs else cho [0, 0] vs)) ∧ Below w.heap.size w w') := by
  have hn := h.nums
  have hbd := h.bd
  obtain ⟨b, o, rfl, g0⟩ := h.int (i := 0) (by omega)
  obtain ⟨x, rfl⟩ : ∃ x, vs = [x] := by
    cases vs with
    | nil => simp at hn
    | cons x l => cases l with
      | nil => exact ⟨x, rfl⟩
      | cons y l => simp at hn
  have hdr : Below w.heap.size w w.drew := (Below.refl _ _).drew
  obtain ⟨f1, f2⟩ := Sk.fresh w.drew [x, x] (by simp)
  obtain ⟨f3, f4⟩ := Sk.fresh w [0] (by simp)
  simp only [Nat.add_zero, List.getD_cons_zero] at g0
  show Calls _ _ _ _ (fun e w' => ∃ a n c, e = .returned (.tuple #[.slice a n c, .bool true]) ∧ Sl w' a n c (ints (if x = 0 then [x] else [x, x])) ∧ Below w.heap.size w w')
  replace f1 := Lib.hid f1
  replace f2 := Lib.hid f2
  replace f3 := Lib.hid f3
  replace f4 := Lib.hid f4
  clear h hn
  by_cases h0 : x = 0
  · subst h0
    rw [if_pos rfl]
    go_enter Tryz.func37, Tryz.ntmps37
    go_wp2
    go_ret2
    exact ⟨_, _, _, rfl, f3.out, f4.out⟩
  · rw [if_neg h0]
    have h1 : (x == 0) = false := by simpa using h0
    clear h0
    go_enter Tryz.func37, Tryz.ntmps37
    go_wp2
    go_still_tail 6, (by kernel_rfl)
    change wpList _ _ _ _ _ w.drew
    generalize w.drew = w2 at *
    go_wp2
    go_ret2
    exact ⟨_, _, _, rfl, f1.out, hdr.trans (f2.out.mono hdr.size)⟩
theorem rmov_no (op : Int) (va : Option Addr) (vn vc : Nat) (w : World) (h : ([13, 14, 15, 16, 17, 18, 19, 20, 21, 22, 23, 24] : List Int).all (fun k => op != k) = true) :
    Calls Tryz.prog 37 #[.int .i64 op, .slice va vn vc] w (fun e w' => e = .returned (.tuple #[.slice none 0 0, .bool false]) ∧ w = w') := by
  simp only [List.all_cons, List.all_nil, Bool.and_true, Bool.and_eq_true, bne_iff_ne, ne_eq] at h
  obtain ⟨h13, h14, h15, h16, h17, h18, h19, h20, h21, h22, h23, h24⟩ := h
  replace h13 : (op == 13) = false := by simpa using h13
  replace h14 : (op == 14) = false := by simpa using h14
  replace h15 : (op == 15) = false := by simpa using h15
  replace h16 : (op == 16) = false := by simpa using h16
  replace h17 : (op == 17) = false := by simpa using h17
  replace h18 : (op == 18) = false := by simpa using h18
  replace h19 : (op == 19) = false := by simpa using h19
  replace h20 : (op == 20) = false := by simpa using h20
  replace h21 : (op == 21) = false := by simpa using h21
  replace h22 : (op == 22) = false := by simpa using h22
  replace h23 : (op == 23) = false := by simpa using h23
  replace h24 : (op == 24) = false := by simpa using h24
  go_enter Tryz.func37, Tryz.ntmps37
  go_wp2
  go_ret2
  exact ⟨rfl, rfl⟩
end Go.Proofs.YtobijdfnafnodaaGreatDoor
