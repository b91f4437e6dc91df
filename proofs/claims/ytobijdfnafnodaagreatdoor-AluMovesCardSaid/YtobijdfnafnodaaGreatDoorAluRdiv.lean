/- The document's words that divide. Written by wip/gen/aluref.py. -/
import Derived.Test.YtobijdfnafnodaaGreatDoorAluRone
import Derived.Deep.QuietTactic
import Derived.BigQuiet
namespace Go.Proofs.YtobijdfnafnodaaGreatDoor
set_option maxRecDepth 100000
open Go.ChangeShapes Go.WideShapes Go.ChangeAt Go.RowKit
open Sk (Sl ints Own)
set_option linter.unusedVariables false

def RdvEnd (w : World) : Except Int (List Int) → Ending → World → Prop
  | .error t, e, w' => e = .returned (.tuple #[.slice none 0 0, .int .i64 t, .bool true]) ∧ Below w.heap.size w w'
  | .ok l, e, w' => ∃ a n c, e = .returned (.tuple #[.slice a n c, .int .i64 0, .bool true]) ∧ Sl w' a n c (ints l) ∧ Below w.heap.size w w'
theorem rdiv_q (x y : Int) (hx : I64 x) (hy : I64 y) (V : World) : Calls Tryz.prog 100 #[.int .i64 x, .int .i64 y] V (fun e w' => e = .returned (.tuple #[.int .i64 (Ce.dvQ x y), .int .i64 (Ce.dvR x y), .bool (Ce.dvO y)]) ∧ w' = V) := (Ce.rdiv_any x y V hx hy).mono fun e w' h => ⟨h.1, h.2.symm⟩
theorem rsca_q (x y z : Int) (hx : I64 x) (hy : I64 y) (hz : I64 z) (V : World) : Calls Tryz.prog 101 #[.int .i64 x, .int .i64 y, .int .i64 z] V (fun e w' => e = .returned (.tuple #[.int .i64 (Ce.scQ (x * y) z), .int .i64 (Ce.scR (x * y) z), .bool (Ce.scO (x * y) z)]) ∧ w' = V) := (Ce.rscale_any x y z V hx hy hz).mono fun e w' h => ⟨h.1, h.2.symm⟩

theorem rdvs_no (op : Int) (va : Option Addr) (vn vc : Nat) (w : World) (h : op < 31 ∨ 35 < op) :
    Calls Tryz.prog 38 #[.int .i64 op, .slice va vn vc] w (fun e w' => e = .returned (.tuple #[.slice none 0 0, .int .i64 0, .bool false]) ∧ w = w') := by
  by_cases h1 : op < 31
  · clear h
    go_enter Tryz.func38, Tryz.ntmps38
    go_wp2
    go_ret3
    exact ⟨rfl, rfl⟩
  · have h2 : 35 < op := by omega
    clear h
    go_enter Tryz.func38, Tryz.ntmps38
    go_wp2
    go_ret3
    exact ⟨rfl, rfl⟩
set_option maxHeartbeats 1000000 in
theorem rdvs_31 (va : Option Addr) (vc : Nat) (vs : List Int) (w : World) (h : Sl w va 2 vc (ints vs)) (hI : I64s vs) : Calls Tryz.prog 38 #[.int .i64 31, .slice va 2 vc] w (RdvEnd w ((divG [1]) vs)) := by
  have hn := h.nums
  have hbd := h.bd
  obtain ⟨b, o, rfl, g0⟩ := h.int (i := 0) (by omega)
  obtain ⟨b', o', e', g1⟩ := h.int (i := 1) (by omega)
  simp only [Option.some.injEq, Addr.mk.injEq, and_true] at e'
  obtain ⟨rfl, rfl⟩ := e'
  have h0 := hI.at (i := 0)
  have h1 := hI.at (i := 1)
  unfold divG
  generalize vs.getD 0 0 = x0 at *
  generalize vs.getD 1 0 = x1 at *
  simp only [Nat.add_zero] at g0
  clear h hn hI
  have hD := Lib.hid (rdiv_q x0 x1 h0 h1)
  by_cases hz : x1 = 0
  · rw [if_pos hz]
    have hz1 : (x1 == 0) = true := by simp [hz]
    clear h0 h1 hz
    go_enter Tryz.func38, Tryz.ntmps38
    go_wp2
    go_ret3
    exact ⟨rfl, Below.refl _ _⟩
  · rw [if_neg hz]
    have hz1 : (x1 == 0) = false := by simpa using hz
    clear h0 h1 hz
    generalize Ce.dvQ x0 x1 = q at *
    generalize Ce.dvR x0 x1 = r at *
    show Calls _ _ _ _ (RdvEnd w (.ok [q]))
    go_enter Tryz.func38, Tryz.ntmps38
    go_wp2
    go_quiet (first | (go_at_call 100; with_reducible exact Calls.quiet_of_same (hD.out _)))
    go_wp2
    go_ret3
    exact ⟨_, _, _, rfl, (Sk.fresh _ [q] (by simp)).1, (drewN_below w _).trans ((Sk.fresh _ [q] (by simp)).2.mono (drewN_below w _).size)⟩
set_option maxHeartbeats 1000000 in
theorem rdvs_32 (va : Option Addr) (vc : Nat) (vs : List Int) (w : World) (h : Sl w va 2 vc (ints vs)) (hI : I64s vs) : Calls Tryz.prog 38 #[.int .i64 32, .slice va 2 vc] w (RdvEnd w ((divG [0]) vs)) := by
  have hn := h.nums
  have hbd := h.bd
  obtain ⟨b, o, rfl, g0⟩ := h.int (i := 0) (by omega)
  obtain ⟨b', o', e', g1⟩ := h.int (i := 1) (by omega)
  simp only [Option.some.injEq, Addr.mk.injEq, and_true] at e'
  obtain ⟨rfl, rfl⟩ := e'
  have h0 := hI.at (i := 0)
  have h1 := hI.at (i := 1)
  unfold divG
  generalize vs.getD 0 0 = x0 at *
  generalize vs.getD 1 0 = x1 at *
  simp only [Nat.add_zero] at g0
  clear h hn hI
  have hD := Lib.hid (rdiv_q x0 x1 h0 h1)
  by_cases hz : x1 = 0
  · rw [if_pos hz]
    have hz1 : (x1 == 0) = true := by simp [hz]
    clear h0 h1 hz
    go_enter Tryz.func38, Tryz.ntmps38
    go_wp2
    go_ret3
    exact ⟨rfl, Below.refl _ _⟩
  · rw [if_neg hz]
    have hz1 : (x1 == 0) = false := by simpa using hz
    clear h0 h1 hz
    generalize Ce.dvQ x0 x1 = q at *
    generalize Ce.dvR x0 x1 = r at *
    show Calls _ _ _ _ (RdvEnd w (.ok [r]))
    go_enter Tryz.func38, Tryz.ntmps38
    go_wp2
    go_quiet (first | (go_at_call 100; with_reducible exact Calls.quiet_of_same (hD.out _)))
    go_wp2
    go_ret3
    exact ⟨_, _, _, rfl, (Sk.fresh _ [r] (by simp)).1, (drewN_below w _).trans ((Sk.fresh _ [r] (by simp)).2.mono (drewN_below w _).size)⟩
set_option maxHeartbeats 1000000 in
theorem rdvs_33 (va : Option Addr) (vc : Nat) (vs : List Int) (w : World) (h : Sl w va 2 vc (ints vs)) (hI : I64s vs) : Calls Tryz.prog 38 #[.int .i64 33, .slice va 2 vc] w (RdvEnd w ((divG [0, 1]) vs)) := by
  have hn := h.nums
  have hbd := h.bd
  obtain ⟨b, o, rfl, g0⟩ := h.int (i := 0) (by omega)
  obtain ⟨b', o', e', g1⟩ := h.int (i := 1) (by omega)
  simp only [Option.some.injEq, Addr.mk.injEq, and_true] at e'
  obtain ⟨rfl, rfl⟩ := e'
  have h0 := hI.at (i := 0)
  have h1 := hI.at (i := 1)
  unfold divG
  generalize vs.getD 0 0 = x0 at *
  generalize vs.getD 1 0 = x1 at *
  simp only [Nat.add_zero] at g0
  clear h hn hI
  have hD := Lib.hid (rdiv_q x0 x1 h0 h1)
  by_cases hz : x1 = 0
  · rw [if_pos hz]
    have hz1 : (x1 == 0) = true := by simp [hz]
    clear h0 h1 hz
    go_enter Tryz.func38, Tryz.ntmps38
    go_wp2
    go_ret3
    exact ⟨rfl, Below.refl _ _⟩
  · rw [if_neg hz]
    have hz1 : (x1 == 0) = false := by simpa using hz
    clear h0 h1 hz
    generalize Ce.dvQ x0 x1 = q at *
    generalize Ce.dvR x0 x1 = r at *
    show Calls _ _ _ _ (RdvEnd w (.ok [r, q]))
    go_enter Tryz.func38, Tryz.ntmps38
    go_wp2
    go_quiet (first | (go_at_call 100; with_reducible exact Calls.quiet_of_same (hD.out _)))
    go_wp2
    go_ret3
    exact ⟨_, _, _, rfl, (Sk.fresh _ [r, q] (by simp)).1, (drewN_below w _).trans ((Sk.fresh _ [r, q] (by simp)).2.mono (drewN_below w _).size)⟩
set_option maxHeartbeats 1000000 in
theorem rdvs_34 (va : Option Addr) (vc : Nat) (vs : List Int) (w : World) (h : Sl w va 3 vc (ints vs)) (hI : I64s vs) : Calls Tryz.prog 38 #[.int .i64 34, .slice va 3 vc] w (RdvEnd w ((scaG [1]) vs)) := by
  have hn := h.nums
  have hbd := h.bd
  obtain ⟨b, o, rfl, g0⟩ := h.int (i := 0) (by omega)
  obtain ⟨b', o', e', g1⟩ := h.int (i := 1) (by omega)
  simp only [Option.some.injEq, Addr.mk.injEq, and_true] at e'
  obtain ⟨rfl, rfl⟩ := e'
  obtain ⟨b', o', e', g2⟩ := h.int (i := 2) (by omega)
  simp only [Option.some.injEq, Addr.mk.injEq, and_true] at e'
  obtain ⟨rfl, rfl⟩ := e'
  have h0 := hI.at (i := 0)
  have h1 := hI.at (i := 1)
  have h2 := hI.at (i := 2)
  unfold scaG
  generalize vs.getD 0 0 = x0 at *
  generalize vs.getD 1 0 = x1 at *
  generalize vs.getD 2 0 = x2 at *
  simp only [Nat.add_zero] at g0
  clear h hn hI
  have hD := Lib.hid (rdiv_q x0 x1 h0 h1)
  have hC := Lib.hid (rsca_q x0 x1 x2 h0 h1 h2)
  by_cases hz : x2 = 0
  · rw [if_pos hz]
    have hz1 : (x2 == 0) = true := by simp [hz]
    clear h0 h1 h2 hz
    go_enter Tryz.func38, Tryz.ntmps38
    go_wp2
    go_ret3
    exact ⟨rfl, Below.refl _ _⟩
  · rw [if_neg hz]
    have hz1 : (x2 == 0) = false := by simpa using hz
    clear h0 h1 h2 hz
    cases hO : Ce.scO (x0 * x1) x2
    · rw [if_neg Bool.false_ne_true]
      rw [hO] at hC
      clear hO
      generalize Ce.dvQ x0 x1 = q0 at *
      generalize Ce.dvR x0 x1 = r0 at *
      generalize Ce.dvO x1 = o0 at *
      go_enter Tryz.func38, Tryz.ntmps38
      go_wp2
      go_quiet (first | (go_at_call 100; with_reducible exact Calls.quiet_of_same (hD.out _)))
      have hB5 := drewN_below w nq
      have k0 := (hB5.cell (World.block_lt_of_cell? _ _ g0)).trans g0
      have k1 := (hB5.cell (World.block_lt_of_cell? _ _ g1)).trans g1
      have k2 := (hB5.cell (World.block_lt_of_cell? _ _ g2)).trans g2
      generalize w.drewN nq = w5 at *
      go_wp2
      go_quiet (first | (go_at_call 101; with_reducible exact Calls.quiet_of_same (hC.out _)))
      go_wp2
      go_ret3
      exact ⟨rfl, (Fl.below_drewN hB5 _)⟩
    · rw [if_pos rfl]
      rw [hO] at hC
      clear hO
      generalize Ce.dvQ x0 x1 = q0 at *
      generalize Ce.dvR x0 x1 = r0 at *
      generalize Ce.dvO x1 = o0 at *
      generalize Ce.scQ (x0 * x1) x2 = q at *
      generalize Ce.scR (x0 * x1) x2 = r at *
      show Calls _ _ _ _ (RdvEnd w (.ok [q]))
      go_enter Tryz.func38, Tryz.ntmps38
      go_wp2
      go_quiet (first | (go_at_call 100; with_reducible exact Calls.quiet_of_same (hD.out _)))
      have hB5 := drewN_below w nq
      have k0 := (hB5.cell (World.block_lt_of_cell? _ _ g0)).trans g0
      have k1 := (hB5.cell (World.block_lt_of_cell? _ _ g1)).trans g1
      have k2 := (hB5.cell (World.block_lt_of_cell? _ _ g2)).trans g2
      generalize w.drewN nq = w5 at *
      go_wp2
      go_quiet (first | (go_at_call 101; with_reducible exact Calls.quiet_of_same (hC.out _)))
      go_wp2
      go_ret3
      exact ⟨_, _, _, rfl, (Sk.fresh _ [q] (by simp)).1, (Fl.below_drewN hB5 _).trans ((Sk.fresh _ [q] (by simp)).2.mono (Fl.below_drewN hB5 _).size)⟩
set_option maxHeartbeats 1000000 in
theorem rdvs_35 (va : Option Addr) (vc : Nat) (vs : List Int) (w : World) (h : Sl w va 3 vc (ints vs)) (hI : I64s vs) : Calls Tryz.prog 38 #[.int .i64 35, .slice va 3 vc] w (RdvEnd w ((scaG [0, 1]) vs)) := by
  have hn := h.nums
  have hbd := h.bd
  obtain ⟨b, o, rfl, g0⟩ := h.int (i := 0) (by omega)
  obtain ⟨b', o', e', g1⟩ := h.int (i := 1) (by omega)
  simp only [Option.some.injEq, Addr.mk.injEq, and_true] at e'
  obtain ⟨rfl, rfl⟩ := e'
  obtain ⟨b', o', e', g2⟩ := h.int (i := 2) (by omega)
  simp only [Option.some.injEq, Addr.mk.injEq, and_true] at e'
  obtain ⟨rfl, rfl⟩ := e'
  have h0 := hI.at (i := 0)
  have h1 := hI.at (i := 1)
  have h2 := hI.at (i := 2)
  unfold scaG
  generalize vs.getD 0 0 = x0 at *
  generalize vs.getD 1 0 = x1 at *
  generalize vs.getD 2 0 = x2 at *
  simp only [Nat.add_zero] at g0
  clear h hn hI
  have hD := Lib.hid (rdiv_q x0 x1 h0 h1)
  have hC := Lib.hid (rsca_q x0 x1 x2 h0 h1 h2)
  by_cases hz : x2 = 0
  · rw [if_pos hz]
    have hz1 : (x2 == 0) = true := by simp [hz]
    clear h0 h1 h2 hz
    go_enter Tryz.func38, Tryz.ntmps38
    go_wp2
    go_ret3
    exact ⟨rfl, Below.refl _ _⟩
  · rw [if_neg hz]
    have hz1 : (x2 == 0) = false := by simpa using hz
    clear h0 h1 h2 hz
    cases hO : Ce.scO (x0 * x1) x2
    · rw [if_neg Bool.false_ne_true]
      rw [hO] at hC
      clear hO
      generalize Ce.dvQ x0 x1 = q0 at *
      generalize Ce.dvR x0 x1 = r0 at *
      generalize Ce.dvO x1 = o0 at *
      go_enter Tryz.func38, Tryz.ntmps38
      go_wp2
      go_quiet (first | (go_at_call 100; with_reducible exact Calls.quiet_of_same (hD.out _)))
      have hB5 := drewN_below w nq
      have k0 := (hB5.cell (World.block_lt_of_cell? _ _ g0)).trans g0
      have k1 := (hB5.cell (World.block_lt_of_cell? _ _ g1)).trans g1
      have k2 := (hB5.cell (World.block_lt_of_cell? _ _ g2)).trans g2
      generalize w.drewN nq = w5 at *
      go_wp2
      go_quiet (first | (go_at_call 101; with_reducible exact Calls.quiet_of_same (hC.out _)))
      go_wp2
      go_ret3
      exact ⟨rfl, (Fl.below_drewN hB5 _)⟩
    · rw [if_pos rfl]
      rw [hO] at hC
      clear hO
      generalize Ce.dvQ x0 x1 = q0 at *
      generalize Ce.dvR x0 x1 = r0 at *
      generalize Ce.dvO x1 = o0 at *
      generalize Ce.scQ (x0 * x1) x2 = q at *
      generalize Ce.scR (x0 * x1) x2 = r at *
      show Calls _ _ _ _ (RdvEnd w (.ok [r, q]))
      go_enter Tryz.func38, Tryz.ntmps38
      go_wp2
      go_quiet (first | (go_at_call 100; with_reducible exact Calls.quiet_of_same (hD.out _)))
      have hB5 := drewN_below w nq
      have k0 := (hB5.cell (World.block_lt_of_cell? _ _ g0)).trans g0
      have k1 := (hB5.cell (World.block_lt_of_cell? _ _ g1)).trans g1
      have k2 := (hB5.cell (World.block_lt_of_cell? _ _ g2)).trans g2
      generalize w.drewN nq = w5 at *
      go_wp2
      go_quiet (first | (go_at_call 101; with_reducible exact Calls.quiet_of_same (hC.out _)))
      go_wp2
      go_ret3
      exact ⟨_, _, _, rfl, (Sk.fresh _ [r, q] (by simp)).1, (Fl.below_drewN hB5 _).trans ((Sk.fresh _ [r, q] (by simp)).2.mono (Fl.below_drewN hB5 _).size)⟩
end Go.Proofs.YtobijdfnafnodaaGreatDoor
