/- What the document's does makes of each word's values (2 of 4). Written by wip/gen/aluref.py. -/
import Derived.Test.YtobijdfnafnodaaGreatDoorAluRdo0
import Derived.StillTailTactics
namespace Go.Proofs.YtobijdfnafnodaaGreatDoor
set_option maxRecDepth 100000
open Go.ChangeShapes Go.WideShapes Go.ChangeAt Go.RowKit
open Sk (Sl ints Own)
set_option linter.unusedVariables false

theorem rdoes_31 (ra : Option Addr) (rn rc : Nat) (rest : List Int) (va : Option Addr) (vc : Nat) (vs : List Int) (w : World) (hR : Sl w ra rn rc (ints rest)) (h : Sl w va 2 vc (ints vs)) (hI : I64s vs) (hrn : rn ≤ 1000000) : Calls Tryz.prog 23 #[.int .i64 31, .slice ra rn rc, .slice va 2 vc] w (RdEnd w (joinR rest ((divG [1]) vs))) := by
  have hMn := Lib.hid (rmov_no 31 va 2 vc w (by decide))
  have hD := Lib.hid (rdvs_31 va vc vs w h hI)
  have hRR := Lib.hid hR
  clear h hI hR
  cases hg : (divG [1]) vs with
  | error t =>
    rw [hg] at hD
    have ht := Lib.hid (divG_err hg)
    clear hg
    show Calls _ _ _ _ (RdEnd w (.error t))
    go_enter Tryz.func23, Tryz.ntmps23
    go_wp2_with (first | (go_at_call 37; (with_reducible refine hMn.out.mono ?_); rintro e w1 ⟨rfl, rfl⟩) | (go_at_call 38; (with_reducible refine hD.out.mono ?_); rintro e w1 ⟨rfl, hb1⟩))
    go_ret3
    exact ⟨ht.out, _, _, _, _, _, _, rfl, hb1⟩
  | ok l =>
    rw [hg] at hD
    clear hg
    show Calls _ _ _ _ (RdEnd w (.ok (rest, l)))
    go_enter Tryz.func23, Tryz.ntmps23
    go_wp2_with (first | (go_at_call 37; (with_reducible refine hMn.out.mono ?_); rintro e w1 ⟨rfl, rfl⟩) | (go_at_call 38; (with_reducible refine hD.out.mono ?_); rintro e w1 ⟨a1, n1, c1, rfl, hs1, hb1⟩))
    go_ret3
    exact ⟨_, _, _, _, _, _, rfl, hRR.out.below hb1, hs1, hb1⟩
theorem rdoes_32 (ra : Option Addr) (rn rc : Nat) (rest : List Int) (va : Option Addr) (vc : Nat) (vs : List Int) (w : World) (hR : Sl w ra rn rc (ints rest)) (h : Sl w va 2 vc (ints vs)) (hI : I64s vs) (hrn : rn ≤ 1000000) : Calls Tryz.prog 23 #[.int .i64 32, .slice ra rn rc, .slice va 2 vc] w (RdEnd w (joinR rest ((divG [0]) vs))) := by
  have hMn := Lib.hid (rmov_no 32 va 2 vc w (by decide))
  have hD := Lib.hid (rdvs_32 va vc vs w h hI)
  have hRR := Lib.hid hR
  clear h hI hR
  cases hg : (divG [0]) vs with
  | error t =>
    rw [hg] at hD
    have ht := Lib.hid (divG_err hg)
    clear hg
    show Calls _ _ _ _ (RdEnd w (.error t))
    go_enter Tryz.func23, Tryz.ntmps23
    go_wp2_with (first | (go_at_call 37; (with_reducible refine hMn.out.mono ?_); rintro e w1 ⟨rfl, rfl⟩) | (go_at_call 38; (with_reducible refine hD.out.mono ?_); rintro e w1 ⟨rfl, hb1⟩))
    go_ret3
    exact ⟨ht.out, _, _, _, _, _, _, rfl, hb1⟩
  | ok l =>
    rw [hg] at hD
    clear hg
    show Calls _ _ _ _ (RdEnd w (.ok (rest, l)))
    go_enter Tryz.func23, Tryz.ntmps23
    go_wp2_with (first | (go_at_call 37; (with_reducible refine hMn.out.mono ?_); rintro e w1 ⟨rfl, rfl⟩) | (go_at_call 38; (with_reducible refine hD.out.mono ?_); rintro e w1 ⟨a1, n1, c1, rfl, hs1, hb1⟩))
    go_ret3
    exact ⟨_, _, _, _, _, _, rfl, hRR.out.below hb1, hs1, hb1⟩
theorem rdoes_33 (ra : Option Addr) (rn rc : Nat) (rest : List Int) (va : Option Addr) (vc : Nat) (vs : List Int) (w : World) (hR : Sl w ra rn rc (ints rest)) (h : Sl w va 2 vc (ints vs)) (hI : I64s vs) (hrn : rn ≤ 1000000) : Calls Tryz.prog 23 #[.int .i64 33, .slice ra rn rc, .slice va 2 vc] w (RdEnd w (joinR rest ((divG [0, 1]) vs))) := by
  have hMn := Lib.hid (rmov_no 33 va 2 vc w (by decide))
  have hD := Lib.hid (rdvs_33 va vc vs w h hI)
  have hRR := Lib.hid hR
  clear h hI hR
  cases hg : (divG [0, 1]) vs with
  | error t =>
    rw [hg] at hD
    have ht := Lib.hid (divG_err hg)
    clear hg
    show Calls _ _ _ _ (RdEnd w (.error t))
    go_enter Tryz.func23, Tryz.ntmps23
    go_wp2_with (first | (go_at_call 37; (with_reducible refine hMn.out.mono ?_); rintro e w1 ⟨rfl, rfl⟩) | (go_at_call 38; (with_reducible refine hD.out.mono ?_); rintro e w1 ⟨rfl, hb1⟩))
    go_ret3
    exact ⟨ht.out, _, _, _, _, _, _, rfl, hb1⟩
  | ok l =>
    rw [hg] at hD
    clear hg
    show Calls _ _ _ _ (RdEnd w (.ok (rest, l)))
    go_enter Tryz.func23, Tryz.ntmps23
    go_wp2_with (first | (go_at_call 37; (with_reducible refine hMn.out.mono ?_); rintro e w1 ⟨rfl, rfl⟩) | (go_at_call 38; (with_reducible refine hD.out.mono ?_); rintro e w1 ⟨a1, n1, c1, rfl, hs1, hb1⟩))
    go_ret3
    exact ⟨_, _, _, _, _, _, rfl, hRR.out.below hb1, hs1, hb1⟩
theorem rdoes_34 (ra : Option Addr) (rn rc : Nat) (rest : List Int) (va : Option Addr) (vc : Nat) (vs : List Int) (w : World) (hR : Sl w ra rn rc (ints rest)) (h : Sl w va 3 vc (ints vs)) (hI : I64s vs) (hrn : rn ≤ 1000000) : Calls Tryz.prog 23 #[.int .i64 34, .slice ra rn rc, .slice va 3 vc] w (RdEnd w (joinR rest ((scaG [1]) vs))) := by
  have hMn := Lib.hid (rmov_no 34 va 3 vc w (by decide))
  have hD := Lib.hid (rdvs_34 va vc vs w h hI)
  have hRR := Lib.hid hR
  clear h hI hR
  cases hg : (scaG [1]) vs with
  | error t =>
    rw [hg] at hD
    have ht := Lib.hid (scaG_err hg)
    clear hg
    show Calls _ _ _ _ (RdEnd w (.error t))
    go_enter Tryz.func23, Tryz.ntmps23
    go_wp2_with (first | (go_at_call 37; (with_reducible refine hMn.out.mono ?_); rintro e w1 ⟨rfl, rfl⟩) | (go_at_call 38; (with_reducible refine hD.out.mono ?_); rintro e w1 ⟨rfl, hb1⟩))
    go_ret3
    exact ⟨ht.out, _, _, _, _, _, _, rfl, hb1⟩
  | ok l =>
    rw [hg] at hD
    clear hg
    show Calls _ _ _ _ (RdEnd w (.ok (rest, l)))
    go_enter Tryz.func23, Tryz.ntmps23
    go_wp2_with (first | (go_at_call 37; (with_reducible refine hMn.out.mono ?_); rintro e w1 ⟨rfl, rfl⟩) | (go_at_call 38; (with_reducible refine hD.out.mono ?_); rintro e w1 ⟨a1, n1, c1, rfl, hs1, hb1⟩))
    go_ret3
    exact ⟨_, _, _, _, _, _, rfl, hRR.out.below hb1, hs1, hb1⟩
theorem rdoes_35 (ra : Option Addr) (rn rc : Nat) (rest : List Int) (va : Option Addr) (vc : Nat) (vs : List Int) (w : World) (hR : Sl w ra rn rc (ints rest)) (h : Sl w va 3 vc (ints vs)) (hI : I64s vs) (hrn : rn ≤ 1000000) : Calls Tryz.prog 23 #[.int .i64 35, .slice ra rn rc, .slice va 3 vc] w (RdEnd w (joinR rest ((scaG [0, 1]) vs))) := by
  have hMn := Lib.hid (rmov_no 35 va 3 vc w (by decide))
  have hD := Lib.hid (rdvs_35 va vc vs w h hI)
  have hRR := Lib.hid hR
  clear h hI hR
  cases hg : (scaG [0, 1]) vs with
  | error t =>
    rw [hg] at hD
    have ht := Lib.hid (scaG_err hg)
    clear hg
    show Calls _ _ _ _ (RdEnd w (.error t))
    go_enter Tryz.func23, Tryz.ntmps23
    go_wp2_with (first | (go_at_call 37; (with_reducible refine hMn.out.mono ?_); rintro e w1 ⟨rfl, rfl⟩) | (go_at_call 38; (with_reducible refine hD.out.mono ?_); rintro e w1 ⟨rfl, hb1⟩))
    go_ret3
    exact ⟨ht.out, _, _, _, _, _, _, rfl, hb1⟩
  | ok l =>
    rw [hg] at hD
    clear hg
    show Calls _ _ _ _ (RdEnd w (.ok (rest, l)))
    go_enter Tryz.func23, Tryz.ntmps23
    go_wp2_with (first | (go_at_call 37; (with_reducible refine hMn.out.mono ?_); rintro e w1 ⟨rfl, rfl⟩) | (go_at_call 38; (with_reducible refine hD.out.mono ?_); rintro e w1 ⟨a1, n1, c1, rfl, hs1, hb1⟩))
    go_ret3
    exact ⟨_, _, _, _, _, _, rfl, hRR.out.below hb1, hs1, hb1⟩
theorem rdoes_36 (ra : Option Addr) (rn rc : Nat) (rest : List Int) (va : Option Addr) (vc : Nat) (vs : List Int) (w : World) (hR : Sl w ra rn rc (ints rest)) (h : Sl w va 1 vc (ints vs)) (hI : I64s vs) (hrn : rn ≤ 1000000) : Calls Tryz.prog 23 #[.int .i64 36, .slice ra rn rc, .slice va 1 vc] w (RdEnd w (joinR rest ((fun vs => lst ((fun x => .ok (wrap64 (x + 1))) (vs.getD 0 0))) vs))) := by
  have hMn := Lib.hid (rmov_no 36 va 1 vc w (by decide))
  have hDn := Lib.hid (rdvs_no 36 va 1 vc w (by decide))
  have hRR := Lib.hid hR
  have hrb := hR.bd
  have hn := h.nums
  have hbd := h.bd
  obtain ⟨b, o, rfl, g0⟩ := h.int (i := 0) (by omega)
  have h0 := hI.at (i := 0)
  have hA := Lib.hid (ralo_36 (vs.getD 0 0) w h0)
  show Calls _ _ _ _ (RdEnd w (.ok (rest, [wrap64 ((vs.getD 0 0) + 1)])))
  generalize vs.getD 0 0 = x0 at *
  simp only [Nat.add_zero] at g0
  clear h hI hR h0 hn
  generalize wrap64 (x0 + 1) = v at *
  go_enter Tryz.func23, Tryz.ntmps23
  go_wp2_with (first | (go_at_call 37; (with_reducible refine hMn.out.mono ?_); rintro e w1 ⟨rfl, rfl⟩) | (go_at_call 38; (with_reducible refine hDn.out.mono ?_); rintro e w1 ⟨rfl, rfl⟩) | (go_at_call 44; (with_reducible refine hA.out.mono ?_); rintro e w2 ⟨rfl, hb2⟩))
  go_ret3
  obtain ⟨f1, f2⟩ := Sk.fresh w2 [v] (by simp)
  exact ⟨_, _, _, _, _, _, rfl, (hRR.out.below hb2).below f2, f1, hb2.trans (f2.mono hb2.size)⟩
theorem rdoes_37 (ra : Option Addr) (rn rc : Nat) (rest : List Int) (va : Option Addr) (vc : Nat) (vs : List Int) (w : World) (hR : Sl w ra rn rc (ints rest)) (h : Sl w va 1 vc (ints vs)) (hI : I64s vs) (hrn : rn ≤ 1000000) : Calls Tryz.prog 23 #[.int .i64 37, .slice ra rn rc, .slice va 1 vc] w (RdEnd w (joinR rest ((fun vs => lst ((fun x => .ok (wrap64 (x - 1))) (vs.getD 0 0))) vs))) := by
  have hMn := Lib.hid (rmov_no 37 va 1 vc w (by decide))
  have hDn := Lib.hid (rdvs_no 37 va 1 vc w (by decide))
  have hRR := Lib.hid hR
  have hrb := hR.bd
  have hn := h.nums
  have hbd := h.bd
  obtain ⟨b, o, rfl, g0⟩ := h.int (i := 0) (by omega)
  have h0 := hI.at (i := 0)
  have hA := Lib.hid (ralo_37 (vs.getD 0 0) w h0)
  show Calls _ _ _ _ (RdEnd w (.ok (rest, [wrap64 ((vs.getD 0 0) - 1)])))
  generalize vs.getD 0 0 = x0 at *
  simp only [Nat.add_zero] at g0
  clear h hI hR h0 hn
  generalize wrap64 (x0 - 1) = v at *
  go_enter Tryz.func23, Tryz.ntmps23
  go_wp2_with (first | (go_at_call 37; (with_reducible refine hMn.out.mono ?_); rintro e w1 ⟨rfl, rfl⟩) | (go_at_call 38; (with_reducible refine hDn.out.mono ?_); rintro e w1 ⟨rfl, rfl⟩) | (go_at_call 44; (with_reducible refine hA.out.mono ?_); rintro e w2 ⟨rfl, hb2⟩))
  go_ret3
  obtain ⟨f1, f2⟩ := Sk.fresh w2 [v] (by simp)
  exact ⟨_, _, _, _, _, _, rfl, (hRR.out.below hb2).below f2, f1, hb2.trans (f2.mono hb2.size)⟩
theorem rdoes_38 (ra : Option Addr) (rn rc : Nat) (rest : List Int) (va : Option Addr) (vc : Nat) (vs : List Int) (w : World) (hR : Sl w ra rn rc (ints rest)) (h : Sl w va 1 vc (ints vs)) (hI : I64s vs) (hrn : rn ≤ 1000000) : Calls Tryz.prog 23 #[.int .i64 38, .slice ra rn rc, .slice va 1 vc] w (RdEnd w (joinR rest ((fun vs => lst ((fun x => .ok (wrap64 (x * 2))) (vs.getD 0 0))) vs))) := by
  have hMn := Lib.hid (rmov_no 38 va 1 vc w (by decide))
  have hDn := Lib.hid (rdvs_no 38 va 1 vc w (by decide))
  have hRR := Lib.hid hR
  have hrb := hR.bd
  have hn := h.nums
  have hbd := h.bd
  obtain ⟨b, o, rfl, g0⟩ := h.int (i := 0) (by omega)
  have h0 := hI.at (i := 0)
  have hA := Lib.hid (ralo_38 (vs.getD 0 0) w h0)
  show Calls _ _ _ _ (RdEnd w (.ok (rest, [wrap64 ((vs.getD 0 0) * 2)])))
  generalize vs.getD 0 0 = x0 at *
  simp only [Nat.add_zero] at g0
  clear h hI hR h0 hn
  generalize wrap64 (x0 * 2) = v at *
  go_enter Tryz.func23, Tryz.ntmps23
  go_wp2_with (first | (go_at_call 37; (with_reducible refine hMn.out.mono ?_); rintro e w1 ⟨rfl, rfl⟩) | (go_at_call 38; (with_reducible refine hDn.out.mono ?_); rintro e w1 ⟨rfl, rfl⟩) | (go_at_call 44; (with_reducible refine hA.out.mono ?_); rintro e w2 ⟨rfl, hb2⟩))
  go_ret3
  obtain ⟨f1, f2⟩ := Sk.fresh w2 [v] (by simp)
  exact ⟨_, _, _, _, _, _, rfl, (hRR.out.below hb2).below f2, f1, hb2.trans (f2.mono hb2.size)⟩
theorem rdoes_39 (ra : Option Addr) (rn rc : Nat) (rest : List Int) (va : Option Addr) (vc : Nat) (vs : List Int) (w : World) (hR : Sl w ra rn rc (ints rest)) (h : Sl w va 1 vc (ints vs)) (hI : I64s vs) (hrn : rn ≤ 1000000) : Calls Tryz.prog 23 #[.int .i64 39, .slice ra rn rc, .slice va 1 vc] w (RdEnd w (joinR rest ((fun vs => lst ((fun x => .ok (x / 2)) (vs.getD 0 0))) vs))) := by
  have hMn := Lib.hid (rmov_no 39 va 1 vc w (by decide))
  have hDn := Lib.hid (rdvs_no 39 va 1 vc w (by decide))
  have hRR := Lib.hid hR
  have hrb := hR.bd
  have hn := h.nums
  have hbd := h.bd
  obtain ⟨b, o, rfl, g0⟩ := h.int (i := 0) (by omega)
  have h0 := hI.at (i := 0)
  have hA := Lib.hid (ralo_39 (vs.getD 0 0) w h0)
  show Calls _ _ _ _ (RdEnd w (.ok (rest, [(vs.getD 0 0) / 2])))
  generalize vs.getD 0 0 = x0 at *
  simp only [Nat.add_zero] at g0
  clear h hI hR h0 hn
  generalize x0 / 2 = v at *
  go_enter Tryz.func23, Tryz.ntmps23
  go_wp2_with (first | (go_at_call 37; (with_reducible refine hMn.out.mono ?_); rintro e w1 ⟨rfl, rfl⟩) | (go_at_call 38; (with_reducible refine hDn.out.mono ?_); rintro e w1 ⟨rfl, rfl⟩) | (go_at_call 44; (with_reducible refine hA.out.mono ?_); rintro e w2 ⟨rfl, hb2⟩))
  go_ret3
  obtain ⟨f1, f2⟩ := Sk.fresh w2 [v] (by simp)
  exact ⟨_, _, _, _, _, _, rfl, (hRR.out.below hb2).below f2, f1, hb2.trans (f2.mono hb2.size)⟩
theorem rdoes_40 (ra : Option Addr) (rn rc : Nat) (rest : List Int) (va : Option Addr) (vc : Nat) (vs : List Int) (w : World) (hR : Sl w ra rn rc (ints rest)) (h : Sl w va 1 vc (ints vs)) (hI : I64s vs) (hrn : rn ≤ 1000000) : Calls Tryz.prog 23 #[.int .i64 40, .slice ra rn rc, .slice va 1 vc] w (RdEnd w (joinR rest ((fun vs => lst ((fun x => .ok (wrap64 (-x))) (vs.getD 0 0))) vs))) := by
  have hMn := Lib.hid (rmov_no 40 va 1 vc w (by decide))
  have hDn := Lib.hid (rdvs_no 40 va 1 vc w (by decide))
  have hRR := Lib.hid hR
  have hrb := hR.bd
  have hn := h.nums
  have hbd := h.bd
  obtain ⟨b, o, rfl, g0⟩ := h.int (i := 0) (by omega)
  have h0 := hI.at (i := 0)
  have hA := Lib.hid (ralo_40 (vs.getD 0 0) w h0)
  show Calls _ _ _ _ (RdEnd w (.ok (rest, [wrap64 (-(vs.getD 0 0))])))
  generalize vs.getD 0 0 = x0 at *
  simp only [Nat.add_zero] at g0
  clear h hI hR h0 hn
  generalize wrap64 (-x0) = v at *
  go_enter Tryz.func23, Tryz.ntmps23
  go_wp2_with (first | (go_at_call 37; (with_reducible refine hMn.out.mono ?_); rintro e w1 ⟨rfl, rfl⟩) | (go_at_call 38; (with_reducible refine hDn.out.mono ?_); rintro e w1 ⟨rfl, rfl⟩) | (go_at_call 44; (with_reducible refine hA.out.mono ?_); rintro e w2 ⟨rfl, hb2⟩))
  go_ret3
  obtain ⟨f1, f2⟩ := Sk.fresh w2 [v] (by simp)
  exact ⟨_, _, _, _, _, _, rfl, (hRR.out.below hb2).below f2, f1, hb2.trans (f2.mono hb2.size)⟩
theorem rdoes_41 (ra : Option Addr) (rn rc : Nat) (rest : List Int) (va : Option Addr) (vc : Nat) (vs : List Int) (w : World) (hR : Sl w ra rn rc (ints rest)) (h : Sl w va 1 vc (ints vs)) (hI : I64s vs) (hrn : rn ≤ 1000000) : Calls Tryz.prog 23 #[.int .i64 41, .slice ra rn rc, .slice va 1 vc] w (RdEnd w (joinR rest ((fun vs => lst ((fun x => .ok (max x (wrap64 (-x)))) (vs.getD 0 0))) vs))) := by
  have hMn := Lib.hid (rmov_no 41 va 1 vc w (by decide))
  have hDn := Lib.hid (rdvs_no 41 va 1 vc w (by decide))
  have hRR := Lib.hid hR
  have hrb := hR.bd
  have hn := h.nums
  have hbd := h.bd
  obtain ⟨b, o, rfl, g0⟩ := h.int (i := 0) (by omega)
  have h0 := hI.at (i := 0)
  have hA := Lib.hid (ralo_41 (vs.getD 0 0) w h0)
  show Calls _ _ _ _ (RdEnd w (.ok (rest, [max (vs.getD 0 0) (wrap64 (-(vs.getD 0 0)))])))
  generalize vs.getD 0 0 = x0 at *
  simp only [Nat.add_zero] at g0
  clear h hI hR h0 hn
  generalize max x0 (wrap64 (-x0)) = v at *
  go_enter Tryz.func23, Tryz.ntmps23
  go_wp2_with (first | (go_at_call 37; (with_reducible refine hMn.out.mono ?_); rintro e w1 ⟨rfl, rfl⟩) | (go_at_call 38; (with_reducible refine hDn.out.mono ?_); rintro e w1 ⟨rfl, rfl⟩) | (go_at_call 44; (with_reducible refine hA.out.mono ?_); rintro e w2 ⟨rfl, hb2⟩))
  go_ret3
  obtain ⟨f1, f2⟩ := Sk.fresh w2 [v] (by simp)
  exact ⟨_, _, _, _, _, _, rfl, (hRR.out.below hb2).below f2, f1, hb2.trans (f2.mono hb2.size)⟩
theorem rdoes_59 (ra : Option Addr) (rn rc : Nat) (rest : List Int) (va : Option Addr) (vc : Nat) (vs : List Int) (w : World) (hR : Sl w ra rn rc (ints rest)) (h : Sl w va 3 vc (ints vs)) (hI : I64s vs) (hrn : rn ≤ 1000000) : Calls Tryz.prog 23 #[.int .i64 59, .slice ra rn rc, .slice va 3 vc] w (RdEnd w (joinR rest ((fun vs => .ok [Ce.flagI (witB vs)]) vs))) := by
  have hMn := Lib.hid (rmov_no 59 va 3 vc w (by decide))
  have hDn := Lib.hid (rdvs_no 59 va 3 vc w (by decide))
  have hRR := Lib.hid hR
  have hrb := hR.bd
  have hn := h.nums
  have hbd := h.bd
  obtain ⟨b, o, rfl, g0⟩ := h.int (i := 0) (by omega)
  obtain ⟨b', o', e', g1⟩ := h.int (i := 1) (by omega)
  simp only [Option.some.injEq, Addr.mk.injEq, and_true] at e'
  obtain ⟨rfl, rfl⟩ := e'
  obtain ⟨b', o', e', g2⟩ := h.int (i := 2) (by omega)
  simp only [Option.some.injEq, Addr.mk.injEq, and_true] at e'
  obtain ⟨rfl, rfl⟩ := e'
  have h0 := hI.at (i := 0)
  have h1 := hI.at (i := 1)
  have h2 := hI.at (i := 2)
  have hdr : Below w.heap.size w w.drew := (Below.refl _ _).drew
  have hwb : ∀ x : Int, I64 (wrap64 x) := fun x => by unfold I64 wrap64; omega
  have hB := Lib.hid (Ce.rbelow_any (wrap64 (vs.getD 0 0 - vs.getD 1 0)) (wrap64 (vs.getD 2 0 - vs.getD 1 0)) w.drew (hwb _) (hwb _))
  show Calls _ _ _ _ (RdEnd w (.ok (rest, [Ce.flagI (Ce.belB (wrap64 (vs.getD 0 0 - vs.getD 1 0)) (wrap64 (vs.getD 2 0 - vs.getD 1 0)))])))
  generalize vs.getD 0 0 = x0 at *
  generalize vs.getD 1 0 = x1 at *
  generalize vs.getD 2 0 = x2 at *
  simp only [Nat.add_zero] at g0
  clear h hI hR h0 h1 h2 hn hwb
  generalize Ce.belB (wrap64 (x0 - x1)) (wrap64 (x2 - x1)) = z at *
  have hwr : ∀ x : Int, wrap64 x = IntKind.i64.wrap x := fun x => by unfold wrap64; rw [IntKind.wrap_i64]
  rw [hwr (x0 - x1), hwr (x2 - x1)] at hB
  clear hwr
  have hcl := Lib.hid (fun (V : World) (hV : Below w.heap.size w V) => show V.cell? ⟨b, o, none⟩ = some (.int .i64 x0) ∧ V.cell? ⟨b, o + 1, none⟩ = some (.int .i64 x1) ∧ V.cell? ⟨b, o + 2, none⟩ = some (.int .i64 x2) from ⟨(hV.cell (p := ⟨b, o, none⟩) (World.block_lt_of_cell? _ _ g0)).trans g0, (hV.cell (p := ⟨b, o + 1, none⟩) (World.block_lt_of_cell? _ _ g1)).trans g1, (hV.cell (p := ⟨b, o + 2, none⟩) (World.block_lt_of_cell? _ _ g2)).trans g2⟩)
  go_enter Tryz.func23, Tryz.ntmps23
  go_wp2_with (first | (go_at_call 37; (with_reducible refine hMn.out.mono ?_); rintro e w1 ⟨rfl, rfl⟩) | (go_at_call 38; (with_reducible refine hDn.out.mono ?_); rintro e w1 ⟨rfl, rfl⟩))
  go_region_held3 (fun V => V.cell? ⟨b, o, none⟩ = some (.int .i64 x0) ∧ V.cell? ⟨b, o + 1, none⟩ = some (.int .i64 x1) ∧ V.cell? ⟨b, o + 2, none⟩ = some (.int .i64 x2)) (first | exact hcl.out _ hdr | exact hcl.out _ (hdr.alloc hdr.size _)) (first | (go_at_call 42; (with_reducible refine hB.out.mono ?_); rintro e w3 ⟨rfl, rfl⟩) | (go_at_call 41; (with_reducible refine (rflag_any _ _).mono ?_); rintro e w2 ⟨rfl, rfl⟩))
  all_goals
    go_wp2
    go_ret3
    obtain ⟨f1, f2⟩ := Sk.fresh w.drew [Ce.flagI z] (by simp)
    exact ⟨_, _, _, _, _, _, rfl, (hRR.out.below hdr).below f2, f1, hdr.trans (f2.mono hdr.size)⟩
end Go.Proofs.YtobijdfnafnodaaGreatDoor
