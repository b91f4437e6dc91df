/- The words that are no closures of a small function: divides, scales, pick, roll, height, twiceIfAny, within, true, false. -/
import Derived.Test.YtobijdfnafnodaaGreatDoorAluLeaf
namespace Go.Proofs.YtobijdfnafnodaaGreatDoor
set_option maxRecDepth 100000
open Go.ChangeShapes Go.WideShapes Go.ChangeAt Go.RowKit
open Sk (Sl ints Own)
set_option linter.unusedVariables false

def divG (ps : List Nat) (vs : List Int) : Except Int (List Int) := if vs.getD 1 0 = 0 then .error (-10) else .ok (cho ps [Ce.dvR (vs.getD 0 0) (vs.getD 1 0), Ce.dvQ (vs.getD 0 0) (vs.getD 1 0)])
def scaG (ps : List Nat) (vs : List Int) : Except Int (List Int) :=
  if vs.getD 2 0 = 0 then .error (-10) else if Ce.scO (vs.getD 0 0 * vs.getD 1 0) (vs.getD 2 0) = true then .ok (cho ps [Ce.scR (vs.getD 0 0 * vs.getD 1 0) (vs.getD 2 0), Ce.scQ (vs.getD 0 0 * vs.getD 1 0) (vs.getD 2 0)]) else .error (-11)

theorem chosen2 (V : World) (x y : Int) (m c2 : Nat) (a2 : Option Addr) (ps : List Nat) (g : Sl V a2 m c2 (ints (nat ps))) (hp : ∀ q ∈ ps, q < 2) (hm : m ≤ 10) :
    Calls Tryz.prog 112 #[.slice (some ⟨V.heap.size, 0, none⟩) 2 2, .slice a2 m c2] (V.alloc (.cells #[.int .i64 x, .int .i64 y] 3)) fun e w' => ∃ a n c, e = .returned (.slice a n c) ∧ Sl w' a n c (ints (cho ps [x, y])) ∧ Below V.heap.size V w' := by
  obtain ⟨f1, f2⟩ := Sk.fresh V [x, y] (by simp)
  refine (chosen_any _ a2 2 2 m c2 [x, y] ps _ f1 (g.below f2) hp hm).mono ?_
  rintro e w' ⟨a, n, c, rfl, hs, hb⟩
  exact ⟨_, _, _, rfl, hs, f2.trans (hb.mono f2.size)⟩

set_option maxHeartbeats 3000000 in
theorem div_is (W : World) (k c2 : Nat) (a2 : Option Addr) (ps : List Nat) (p : Addr) (hg : Sl W a2 k c2 (ints (nat ps))) (hk : k ≤ 10) (hp : ∀ q ∈ ps, q < 2) (hc : W.cell? p = some (.slice a2 k c2)) :
    ToldIs W (.func (.func 120) #[] #[.pointer (some p)]) 2 (divG ps) := by
  refine ⟨_, _, rfl, fun _ _ => by kernel_rfl, fun w hw a c vs hS hI => ?_⟩
  have hn := hS.nums
  have hbd := hS.bd
  obtain ⟨b, o, rfl, g0⟩ := hS.int (i := 0) (by omega)
  obtain ⟨b', o', e', g1⟩ := hS.int (i := 1) (by omega)
  simp only [Option.some.injEq, Addr.mk.injEq, and_true] at e'
  obtain ⟨rfl, rfl⟩ := e'
  have hx := hI.at (i := 0)
  have hy := hI.at (i := 1)
  have hb0 : Below w.heap.size w w.drew := (Below.refl _ _).drew
  have hD := Lib.hid (Ce.div_mem (vs.getD 0 0) (vs.getD 1 0) w.drew hx hy)
  have hcc := Lib.hid (fun (V : World) (h : Below w.drew.heap.size w.drew V) => (hw.trans ((Keep.of hb0).trans (Keep.of h))).cell hc)
  have hch := Lib.hid (fun (V : World) (h : Below w.drew.heap.size w.drew V) (x y : Int) => chosen2 V x y k c2 a2 ps (Sl.keep hg (hw.trans ((Keep.of hb0).trans (Keep.of h)))) hp hk)
  have hn2 := Sk.new2
  show Calls Tryz.prog 120 #[.slice (some ⟨b, o, none⟩) 2 c, .pointer (some p)] w (ToldEnd w (divG ps vs))
  unfold divG
  generalize vs.getD 0 0 = x at *
  generalize vs.getD 1 0 = y at *
  simp only [Nat.add_zero] at g0
  clear hw hS hI hx hy hn hg hc
  by_cases h0 : y = 0
  · rw [if_pos h0]
    rw [show Ce.dvO y = false by simp [Ce.dvO, h0]] at hD
    clear h0
    go_enter Tryz.func120, Tryz.ntmps120
    go_wp2
    go_region_with (go_at_call 121; (with_reducible refine hD.out.mono ?_); rintro e w3 ⟨rfl, hb3⟩)
    all_goals
      go_wp2_with (go_at_call 116; (with_reducible refine (want_no (-10) _).mono ?_); rintro e w2 ⟨rfl, rfl⟩)
      exact ⟨rfl, rfl, hb0.trans (hb3.mono hb0.size)⟩
  · rw [if_neg h0]
    rw [show Ce.dvO y = true by simp [Ce.dvO, h0]] at hD
    clear h0
    generalize Ce.dvQ x y = q at *
    generalize Ce.dvR x y = r at *
    go_enter Tryz.func120, Tryz.ntmps120
    go_wp2
    go_region_with (go_at_call 121; (with_reducible refine hD.out.mono ?_); rintro e w3 ⟨rfl, hb3⟩; have cc := hcc.out (w3.alloc (.cells #[.int .i64 r, .int .i64 q] 3)) (hb3.alloc hb3.size _); have ch := Lib.hid (hch.out _ hb3 r q))
    all_goals
     go_wp2_with (first | (go_at_call 116; (with_reducible refine (want_yes (-10) _).mono ?_); rintro e w2 ⟨rfl, rfl⟩) | (go_at_call 112; (with_reducible refine ch.out.mono ?_); rintro e w4 ⟨a4, n4, c4, rfl, hs4, hb4⟩))
     go_ret
     exact ⟨_, _, _, rfl, hs4, (hb0.trans (hb3.mono hb0.size)).trans (hb4.mono (by have := hb0.size; have := hb3.size; omega))⟩

set_option maxHeartbeats 6000000 in
theorem sca_is (W : World) (k c2 : Nat) (a2 : Option Addr) (ps : List Nat) (p : Addr) (hg : Sl W a2 k c2 (ints (nat ps))) (hk : k ≤ 10) (hp : ∀ q ∈ ps, q < 2) (hc : W.cell? p = some (.slice a2 k c2)) :
    ToldIs W (.func (.func 122) #[] #[.pointer (some p)]) 3 (scaG ps) := by
  refine ⟨_, _, rfl, fun _ _ => by kernel_rfl, fun w hw a c vs hS hI => ?_⟩
  have hn := hS.nums
  have hbd := hS.bd
  obtain ⟨b, o, rfl, g0⟩ := hS.int (i := 0) (by omega)
  obtain ⟨b', o', e', g1⟩ := hS.int (i := 1) (by omega)
  simp only [Option.some.injEq, Addr.mk.injEq, and_true] at e'
  obtain ⟨rfl, rfl⟩ := e'
  obtain ⟨b', o', e', g2⟩ := hS.int (i := 2) (by omega)
  simp only [Option.some.injEq, Addr.mk.injEq, and_true] at e'
  obtain ⟨rfl, rfl⟩ := e'
  have hx := hI.at (i := 0)
  have hy := hI.at (i := 1)
  have hz := hI.at (i := 2)
  have hb0 : Below w.heap.size w w.drew := (Below.refl _ _).drew
  have hD := Lib.hid (Ce.scale_any (vs.getD 0 0) (vs.getD 1 0) (vs.getD 2 0) w.drew hx hy hz)
  have hcc := Lib.hid (fun (V : World) (h : Below w.drew.heap.size w.drew V) => (hw.trans ((Keep.of hb0).trans (Keep.of h))).cell hc)
  have hch := Lib.hid (fun (V : World) (h : Below w.drew.heap.size w.drew V) (x y : Int) => chosen2 V x y k c2 a2 ps (Sl.keep hg (hw.trans ((Keep.of hb0).trans (Keep.of h)))) hp hk)
  have hn2 := Sk.new2
  show Calls Tryz.prog 122 #[.slice (some ⟨b, o, none⟩) 3 c, .pointer (some p)] w (ToldEnd w (scaG ps vs))
  unfold scaG
  generalize vs.getD 0 0 = x at *
  generalize vs.getD 1 0 = y at *
  generalize vs.getD 2 0 = z at *
  simp only [Nat.add_zero] at g0
  clear hw hS hI hx hy hz hn hg hc
  by_cases h0 : z = 0
  · rw [if_pos h0]
    have h1 : (z != 0) = false := by simp [h0]
    clear h0 hD hcc hch
    go_enter Tryz.func122, Tryz.ntmps122
    go_wp2_with (go_at_call 116; (with_reducible refine (want_no (-10) _).mono ?_); rintro e w2 ⟨rfl, rfl⟩)
    exact ⟨rfl, rfl, Below.refl _ _⟩
  · rw [if_neg h0]
    have h1 : (z != 0) = true := by simp [h0]
    clear h0
    cases h2 : Ce.scO (x * y) z
    · rw [if_neg Bool.false_ne_true]
      rw [h2] at hD
      clear h2
      go_enter Tryz.func122, Tryz.ntmps122
      go_wp2_with (go_at_call 116; (with_reducible refine (want_yes (-10) _).mono ?_); rintro e w2 ⟨rfl, rfl⟩)
      go_region_with (go_at_call 123; (with_reducible refine hD.out.mono ?_); rintro e w3 ⟨rfl, hb3⟩)
      all_goals
        go_wp2_with (go_at_call 116; (with_reducible refine (want_no (-11) _).mono ?_); rintro e w2 ⟨rfl, rfl⟩)
        exact ⟨rfl, rfl, hb0.trans (hb3.mono hb0.size)⟩
    · rw [if_pos rfl]
      rw [h2] at hD
      clear h2
      generalize Ce.scQ (x * y) z = q at *
      generalize Ce.scR (x * y) z = r at *
      go_enter Tryz.func122, Tryz.ntmps122
      go_wp2_with (go_at_call 116; (with_reducible refine (want_yes (-10) _).mono ?_); rintro e w2 ⟨rfl, rfl⟩)
      go_region_with (go_at_call 123; (with_reducible refine hD.out.mono ?_); rintro e w3 ⟨rfl, hb3⟩; have cc := hcc.out (w3.alloc (.cells #[.int .i64 r, .int .i64 q] 3)) (hb3.alloc hb3.size _); have ch := Lib.hid (hch.out _ hb3 r q))
      all_goals
       go_wp2_with (first | (go_at_call 116; (with_reducible refine (want_yes (-11) _).mono ?_); rintro e w2 ⟨rfl, rfl⟩) | (go_at_call 112; (with_reducible refine ch.out.mono ?_); rintro e w4 ⟨a4, n4, c4, rfl, hs4, hb4⟩))
       go_ret
       exact ⟨_, _, _, rfl, hs4, (hb0.trans (hb3.mono hb0.size)).trans (hb4.mono (by have := hb0.size; have := hb3.size; omega))⟩

theorem divides_any (W : World) (k c2 : Nat) (a2 : Option Addr) (ps : List Nat) (hg : Sl W a2 k c2 (ints (nat ps))) (hk : k ≤ 10) (hp : ∀ q ∈ ps, q < 2) :
    Calls Tryz.prog 75 #[.slice a2 k c2] W (Makes W (tk 2 (divG ps))) := by
  have hmf := Sk.mkf
  have b1 := boxed W (.slice a2 k c2) 22
  have hT := Lib.hid (taking2_any _ _ _ (div_is _ k c2 a2 ps ⟨W.heap.size, 0, none⟩ (Sl.keep hg (Keep.of b1.2)) hk hp b1.1))
  have hb := Lib.hid b1.2
  clear b1 hg
  go_enter Tryz.func75, Tryz.ntmps75
  go_wp2_with (go_at_call 49; (with_reducible refine hT.out.mono ?_); rintro e w1 ⟨G, rfl, hG, hb1⟩)
  go_ret
  exact ⟨_, rfl, hG, hb.out.trans (hb1.mono hb.out.size)⟩
theorem scales_any (W : World) (k c2 : Nat) (a2 : Option Addr) (ps : List Nat) (hg : Sl W a2 k c2 (ints (nat ps))) (hk : k ≤ 10) (hp : ∀ q ∈ ps, q < 2) :
    Calls Tryz.prog 76 #[.slice a2 k c2] W (Makes W (tk 3 (scaG ps))) := by
  have hmf := Sk.mkf
  have b1 := boxed W (.slice a2 k c2) 22
  have hT := Lib.hid (taking3_any _ _ _ (sca_is _ k c2 a2 ps ⟨W.heap.size, 0, none⟩ (Sl.keep hg (Keep.of b1.2)) hk hp b1.1))
  have hb := Lib.hid b1.2
  clear b1 hg
  go_enter Tryz.func76, Tryz.ntmps76
  go_wp2_with (go_at_call 49; (with_reducible refine hT.out.mono ?_); rintro e w1 ⟨G, rfl, hG, hb1⟩)
  go_ret
  exact ⟨_, rfl, hG, hb.out.trans (hb1.mono hb.out.size)⟩

/-- a value twice, but 0 once -/
def twiG (vs : List Int) : Except Int (List Int) := .ok (if vs.getD 0 0 = 0 then vs else cho [0, 0] vs)
theorem twice_is (W : World) : ToldIs W (.func (.func 50) #[] #[]) 1 twiG := by
  refine ⟨_, _, rfl, fun _ _ => by kernel_rfl, fun w hw a c vs hS hI => ?_⟩
  have hn := hS.nums
  have hbd := hS.bd
  obtain ⟨b, o, rfl, g0⟩ := hS.int (i := 0) (by omega)
  obtain ⟨f1, f2⟩ := Sk.fresh w [0, 0] (by simp)
  have hch := Lib.hid (chosen_any _ _ 1 c 2 2 vs [0, 0] (w.alloc (.cells #[.int .i64 0, .int .i64 0] 3)) (hS.below f2) f1 (by simp) (by decide))
  have hf := Lib.hid f2
  have hSS := Lib.hid hS
  have hn2 := Sk.new2
  show Calls Tryz.prog 50 #[.slice (some ⟨b, o, none⟩) 1 c] w (ToldEnd w (twiG vs))
  unfold twiG
  simp only [Nat.add_zero] at g0
  clear hS hI hw f1 f2 hn
  by_cases h0 : vs.getD 0 0 = 0
  · rw [if_pos h0]
    rw [h0] at g0
    clear h0
    go_enter Tryz.func50, Tryz.ntmps50
    go_wp2
    go_ret
    exact ⟨_, _, _, rfl, hSS.out, Below.refl _ _⟩
  · rw [if_neg h0]
    have h1 : (vs.getD 0 0 == 0) = false := by simp only [beq_eq_false_iff_ne]; exact h0
    clear h0
    generalize vs.getD 0 0 = x at *
    go_enter Tryz.func50, Tryz.ntmps50
    go_wp2_with (go_at_call 112; (with_reducible refine hch.out.mono ?_); rintro e w4 ⟨a4, n4, c4, rfl, hs4, hb4⟩)
    go_ret
    exact ⟨_, _, _, rfl, hs4, hf.out.trans (hb4.mono hf.out.size)⟩

/-- pick, roll, height -/
def pickF (xs : List Int) : Except Int (List Int × List Int) :=
  if xs.length < 1 then .error (-4) else if Sk.tPick (xs.length - 1) ((xs.drop (xs.length - 1)).getD 0 0) = 0 then .ok (xs.take (xs.length - 1), [Sk.pickV (xs.take (xs.length - 1)) ((xs.drop (xs.length - 1)).getD 0 0)]) else .error (-4)
def rollF (xs : List Int) : Except Int (List Int × List Int) :=
  if xs.length < 1 then .error (-4) else if Sk.tPick (xs.length - 1) ((xs.drop (xs.length - 1)).getD 0 0) = 0 then .ok (Sk.rollX (xs.take (xs.length - 1)) ((xs.drop (xs.length - 1)).getD 0 0), []) else .error (-4)
def highF (xs : List Int) : Except Int (List Int × List Int) := .ok (xs, [(xs.length : Int)])
theorem height_is (W : World) : WordIs W (.func (.func 53) #[] #[]) highF := by
  refine ⟨_, _, rfl, fun _ _ => by kernel_rfl, fun w hw a n c xs hS hn hI => ?_⟩
  have hl := hS.nums
  obtain ⟨f1, f2⟩ := Sk.fresh w [(n : Int)] (by simp)
  have hn1 := Sk.new1
  have hSS := Lib.hid hS
  show Calls Tryz.prog 53 #[.slice a n c] w (WordEnd w (highF xs))
  unfold highF
  rw [hl]
  clear hw hS hI
  go_enter Tryz.func53, Tryz.ntmps53
  go_wp2
  go_ret2
  exact ⟨_, _, _, _, _, _, rfl, hSS.out.below f2, f1, f2⟩
theorem pick_is (W : World) : WordIs W (.func (.func 51) #[] #[]) pickF := by
  refine ⟨_, _, rfl, fun _ _ => by kernel_rfl, fun w hw a n c xs hS hn hI => ?_⟩
  have hl := hS.nums
  have hbd := hS.bd
  show Calls Tryz.prog 51 #[.slice a n c] w (WordEnd w (pickF xs))
  unfold pickF
  rw [hl]
  by_cases hc : n < 1
  · rw [if_pos hc]
    have ht := Lib.hid (take_no a n c 1 xs w hS (by omega) hc (by decide))
    have ht := Lib.hid (show Calls Tryz.prog 114 #[.slice a n c, .int .i64 1] w _ from ht.out)
    clear hw hS hI
    go_enter Tryz.func51, Tryz.ntmps51
    go_wp2_with (go_at_call 114; (with_reducible refine ht.out.mono ?_); rintro e w1 ⟨rfl, hb1⟩)
    exact ⟨rfl, rfl, hb1⟩
  · rw [if_neg hc]
    have ht := Lib.hid (take_ok a n c 1 xs w hS (by omega) (by omega) (by decide))
    have ht := Lib.hid (show Calls Tryz.prog 114 #[.slice a n c, .int .i64 1] w _ from ht.out)
    have hx : I64 ((xs.drop (n - 1)).getD 0 0) := (hI.drop _).at
    have hg := Lib.hid (fun (w1 : World) a2 c2 (h2 : Sl w1 a2 1 c2 (ints (xs.drop (n - 1)))) => h2.int (i := 0) (by rw [List.length_drop]; omega))
    have hpk := Lib.hid (fun (w1 : World) a1 c1 (h1 : Sl w1 a1 (n - 1) c1 (ints (xs.take (n - 1)))) => Sk.pick_any a1 (n - 1) c1 (xs.take (n - 1)) ((xs.drop (n - 1)).getD 0 0) w1 h1 hx)
    have hbg := Lib.hid (fun (w1 : World) a2 c2 (h2 : Sl w1 a2 1 c2 (ints (xs.drop (n - 1)))) => h2.bd)
    have hfr := Lib.hid (fun (V : World) (y : Int) => Sk.fresh V [y] (by simp))
    have hn1 := Sk.new1
    clear hw hS hI hx
    generalize (xs.drop (n - 1)).getD 0 0 = x at *
    by_cases h1 : Sk.tPick (n - 1) x = 0
    · rw [if_pos h1]
      rw [h1] at hpk
      clear h1
      generalize Sk.pickV (xs.take (n - 1)) x = v at *
      go_enter Tryz.func51, Tryz.ntmps51
      go_wp2_with (first | (go_at_call 114; (with_reducible refine ht.out.mono ?_); rintro e w1 ⟨a1, d1, a2, d2, rfl, hs1, hs2, hb1⟩; have q1 := hbg.out _ _ _ hs2; obtain ⟨b2, o2, rfl, g2⟩ := hg.out _ _ _ hs2; have hpk := Lib.hid (hpk.out _ _ _ hs1); replace hs1 := Lib.hid hs1; replace hb1 := Lib.hid hb1; clear hs2; simp only [Nat.add_zero] at g2) | (go_at_call 115; (with_reducible refine hpk.out.mono ?_); rintro e w2 ⟨rfl, hb2⟩; obtain ⟨f1, f2⟩ := hfr.out w2 v) | (go_at_call 116; (with_reducible refine (want_yes 0 _).mono ?_); rintro e w3 ⟨rfl, rfl⟩))
      go_ret2
      exact ⟨_, _, _, _, _, _, rfl, (hs1.out.below hb2).below f2, f1, (hb1.out.trans (hb2.mono hb1.out.size)).trans (f2.mono (by have := hb1.out.size; have := hb2.size; omega))⟩
    · rw [if_neg h1]
      rw [(Sk.tPick_no h1).2] at hpk
      clear h1
      generalize Sk.pickV (xs.take (n - 1)) x = v at *
      go_enter Tryz.func51, Tryz.ntmps51
      go_wp2_with (first | (go_at_call 114; (with_reducible refine ht.out.mono ?_); rintro e w1 ⟨a1, d1, a2, d2, rfl, hs1, hs2, hb1⟩; have q1 := hbg.out _ _ _ hs2; obtain ⟨b2, o2, rfl, g2⟩ := hg.out _ _ _ hs2; have hpk := Lib.hid (hpk.out _ _ _ hs1); replace hb1 := Lib.hid hb1; clear hs1 hs2; simp only [Nat.add_zero] at g2) | (go_at_call 115; (with_reducible refine hpk.out.mono ?_); rintro e w2 ⟨rfl, hb2⟩) | (go_at_call 116; (with_reducible refine (want_no (-4) _).mono ?_); rintro e w3 ⟨rfl, rfl⟩))
      exact ⟨rfl, rfl, hb1.out.trans (hb2.mono hb1.out.size)⟩
theorem roll_is (W : World) : WordIs W (.func (.func 52) #[] #[]) rollF := by
  refine ⟨_, _, rfl, fun _ _ => by kernel_rfl, fun w hw a n c xs hS hn hI => ?_⟩
  have hl := hS.nums
  have hbd := hS.bd
  show Calls Tryz.prog 52 #[.slice a n c] w (WordEnd w (rollF xs))
  unfold rollF
  rw [hl]
  by_cases hc : n < 1
  · rw [if_pos hc]
    have ht := Lib.hid (take_no a n c 1 xs w hS (by omega) hc (by decide))
    have ht := Lib.hid (show Calls Tryz.prog 114 #[.slice a n c, .int .i64 1] w _ from ht.out)
    clear hw hS hI
    go_enter Tryz.func52, Tryz.ntmps52
    go_wp2_with (go_at_call 114; (with_reducible refine ht.out.mono ?_); rintro e w1 ⟨rfl, hb1⟩)
    exact ⟨rfl, rfl, hb1⟩
  · rw [if_neg hc]
    have ht := Lib.hid (take_ok a n c 1 xs w hS (by omega) (by omega) (by decide))
    have ht := Lib.hid (show Calls Tryz.prog 114 #[.slice a n c, .int .i64 1] w _ from ht.out)
    have hx : I64 ((xs.drop (n - 1)).getD 0 0) := (hI.drop _).at
    have hg := Lib.hid (fun (w1 : World) a2 c2 (h2 : Sl w1 a2 1 c2 (ints (xs.drop (n - 1)))) => h2.int (i := 0) (by rw [List.length_drop]; omega))
    have hpk := Lib.hid (fun (w1 : World) a1 c1 (h1 : Sl w1 a1 (n - 1) c1 (ints (xs.take (n - 1)))) => Sk.roll_any a1 (n - 1) c1 (xs.take (n - 1)) ((xs.drop (n - 1)).getD 0 0) w1 h1 (by omega) hx)
    have hbg := Lib.hid (fun (w1 : World) a2 c2 (h2 : Sl w1 a2 1 c2 (ints (xs.drop (n - 1)))) => h2.bd)
    clear hw hS hI hx
    generalize (xs.drop (n - 1)).getD 0 0 = x at *
    by_cases h1 : Sk.tPick (n - 1) x = 0
    · rw [if_pos h1]
      rw [h1] at hpk
      clear h1
      generalize Sk.rollX (xs.take (n - 1)) x = v at *
      go_enter Tryz.func52, Tryz.ntmps52
      go_wp2_with (first | (go_at_call 114; (with_reducible refine ht.out.mono ?_); rintro e w1 ⟨a1, d1, a2, d2, rfl, hs1, hs2, hb1⟩; have q1 := hbg.out _ _ _ hs2; obtain ⟨b2, o2, rfl, g2⟩ := hg.out _ _ _ hs2; have hpk := Lib.hid (hpk.out _ _ _ hs1); replace hb1 := Lib.hid hb1; clear hs1 hs2; simp only [Nat.add_zero] at g2) | (go_at_call 117; (with_reducible refine hpk.out.mono ?_); rintro e w2 ⟨a5, c5, rfl, hs5, hb2⟩; replace hs5 := Lib.hid hs5) | (go_at_call 116; (with_reducible refine (want_yes 0 _).mono ?_); rintro e w3 ⟨rfl, rfl⟩))
      go_ret2
      exact ⟨_, _, _, _, _, _, rfl, hs5.out, Sl.zero _, hb1.out.trans (hb2.mono hb1.out.size)⟩
    · rw [if_neg h1]
      rw [(Sk.tPick_no h1).2] at hpk
      clear h1
      generalize Sk.rollX (xs.take (n - 1)) x = v at *
      go_enter Tryz.func52, Tryz.ntmps52
      go_wp2_with (first | (go_at_call 114; (with_reducible refine ht.out.mono ?_); rintro e w1 ⟨a1, d1, a2, d2, rfl, hs1, hs2, hb1⟩; have q1 := hbg.out _ _ _ hs2; obtain ⟨b2, o2, rfl, g2⟩ := hg.out _ _ _ hs2; have hpk := Lib.hid (hpk.out _ _ _ hs1); replace hb1 := Lib.hid hb1; clear hs1 hs2; simp only [Nat.add_zero] at g2) | (go_at_call 117; (with_reducible refine hpk.out.mono ?_); rintro e w2 ⟨a5, c5, rfl, hs5, hb2⟩; clear hs5) | (go_at_call 116; (with_reducible refine (want_no (-4) _).mono ?_); rintro e w3 ⟨rfl, rfl⟩))
      exact ⟨rfl, rfl, hb1.out.trans (hb2.mono hb1.out.size)⟩

/-- WITHIN, TRUE, FALSE -/
def witB (vs : List Int) : Bool := Ce.belB (wrap64 (vs.getD 0 0 - vs.getD 1 0)) (wrap64 (vs.getD 2 0 - vs.getD 1 0))
theorem within_is (W : World) : AskIs W (.func (.func 89) #[] #[]) 3 witB := by
  refine ⟨_, _, rfl, fun _ _ => by kernel_rfl, fun w hw a c vs hS hI => ?_⟩
  have hn := hS.nums
  have hbd := hS.bd
  obtain ⟨b, o, rfl, g0⟩ := hS.int (i := 0) (by omega)
  obtain ⟨b', o', e', g1⟩ := hS.int (i := 1) (by omega)
  simp only [Option.some.injEq, Addr.mk.injEq, and_true] at e'
  obtain ⟨rfl, rfl⟩ := e'
  obtain ⟨b', o', e', g2⟩ := hS.int (i := 2) (by omega)
  simp only [Option.some.injEq, Addr.mk.injEq, and_true] at e'
  obtain ⟨rfl, rfl⟩ := e'
  have hb0 : Below w.heap.size w w.drew := (Below.refl _ _).drew
  show Calls Tryz.prog 89 #[.slice (some ⟨b, o, none⟩) 3 c] w (BoolEnd w (witB vs))
  unfold witB
  have hD := Lib.hid (Ce.within_any (vs.getD 0 0) (vs.getD 1 0) (vs.getD 2 0) w.drew)
  generalize vs.getD 0 0 = x at *
  generalize vs.getD 1 0 = y at *
  generalize vs.getD 2 0 = z at *
  simp only [Nat.add_zero] at g0
  clear hw hS hI hn
  go_enter Tryz.func89, Tryz.ntmps89
  go_wp2
  go_still_tail 9, (by kernel_rfl)
  change wpList _ _ _ _ _ w.drew
  generalize w.drew = w2 at *
  go_wp2_with (go_at_call 90; (with_reducible refine hD.out.mono ?_); rintro e w3 ⟨rfl, rfl⟩)
  go_ret
  exact ⟨rfl, hb0⟩
theorem true_is (W : World) : AskIs W (.func (.func 91) #[] #[]) 0 (fun _ => true) := by
  refine ⟨_, _, rfl, fun _ _ => by kernel_rfl, fun w hw a c vs hS hI => ?_⟩
  show Calls Tryz.prog 91 #[.slice a 0 c] w (BoolEnd w true)
  clear hw hS hI
  go_enter Tryz.func91, Tryz.ntmps91
  go_wp2
  go_ret
  exact ⟨rfl, Below.refl _ _⟩
theorem false_is (W : World) : AskIs W (.func (.func 92) #[] #[]) 0 (fun _ => false) := by
  refine ⟨_, _, rfl, fun _ _ => by kernel_rfl, fun w hw a c vs hS hI => ?_⟩
  show Calls Tryz.prog 92 #[.slice a 0 c] w (BoolEnd w false)
  clear hw hS hI
  go_enter Tryz.func92, Tryz.ntmps92
  go_wp2
  go_ret
  exact ⟨rfl, Below.refl _ _⟩
end Go.Proofs.YtobijdfnafnodaaGreatDoor
