/- What the document's does makes of each word's values (1 of 4). Written by wip/gen/aluref.py. -/
import Derived.Test.YtobijdfnafnodaaGreatDoorAluRdo0
import Derived.StillTailTactics
namespace Go.Proofs.YtobijdfnafnodaaGreatDoor
set_option maxRecDepth 100000
open Go.ChangeShapes Go.WideShapes Go.ChangeAt Go.RowKit
open Sk (Sl ints Own)
set_option linter.unusedVariables false

theorem rdoes_13 (ra : Option Addr) (rn rc : Nat) (rest : List Int) (va : Option Addr) (vc : Nat) (vs : List Int) (w : World) (hR : Sl w ra rn rc (ints rest)) (h : Sl w va 1 vc (ints vs)) (hI : I64s vs) (hrn : rn ≤ 1000000) : Calls Tryz.prog 23 #[.int .i64 13, .slice ra rn rc, .slice va 1 vc] w (RdEnd w (joinR rest ((fun vs => .ok (cho [0, 0] vs)) vs))) := by
  have hM := Lib.hid (rmov_13 va vc vs w h)
  have hRR := Lib.hid hR
  clear h hI hR
  show Calls _ _ _ _ (RdEnd w (.ok (rest, cho [0, 0] vs)))
  go_enter Tryz.func23, Tryz.ntmps23
  go_wp2_with (go_at_call 37; (with_reducible refine hM.out.mono ?_); rintro e w1 ⟨a1, n1, c1, rfl, hs1, hb1⟩)
  go_ret3
  exact ⟨_, _, _, _, _, _, rfl, hRR.out.below hb1, hs1, hb1⟩
theorem rdoes_14 (ra : Option Addr) (rn rc : Nat) (rest : List Int) (va : Option Addr) (vc : Nat) (vs : List Int) (w : World) (hR : Sl w ra rn rc (ints rest)) (h : Sl w va 1 vc (ints vs)) (hI : I64s vs) (hrn : rn ≤ 1000000) : Calls Tryz.prog 23 #[.int .i64 14, .slice ra rn rc, .slice va 1 vc] w (RdEnd w (joinR rest ((fun vs => .ok (cho [] vs)) vs))) := by
  have hM := Lib.hid (rmov_14 va vc vs w h)
  have hRR := Lib.hid hR
  clear h hI hR
  show Calls _ _ _ _ (RdEnd w (.ok (rest, cho [] vs)))
  go_enter Tryz.func23, Tryz.ntmps23
  go_wp2_with (go_at_call 37; (with_reducible refine hM.out.mono ?_); rintro e w1 ⟨a1, n1, c1, rfl, hs1, hb1⟩)
  go_ret3
  exact ⟨_, _, _, _, _, _, rfl, hRR.out.below hb1, hs1, hb1⟩
theorem rdoes_15 (ra : Option Addr) (rn rc : Nat) (rest : List Int) (va : Option Addr) (vc : Nat) (vs : List Int) (w : World) (hR : Sl w ra rn rc (ints rest)) (h : Sl w va 2 vc (ints vs)) (hI : I64s vs) (hrn : rn ≤ 1000000) : Calls Tryz.prog 23 #[.int .i64 15, .slice ra rn rc, .slice va 2 vc] w (RdEnd w (joinR rest ((fun vs => .ok (cho [1, 0] vs)) vs))) := by
  have hM := Lib.hid (rmov_15 va vc vs w h)
  have hRR := Lib.hid hR
  clear h hI hR
  show Calls _ _ _ _ (RdEnd w (.ok (rest, cho [1, 0] vs)))
  go_enter Tryz.func23, Tryz.ntmps23
  go_wp2_with (go_at_call 37; (with_reducible refine hM.out.mono ?_); rintro e w1 ⟨a1, n1, c1, rfl, hs1, hb1⟩)
  go_ret3
  exact ⟨_, _, _, _, _, _, rfl, hRR.out.below hb1, hs1, hb1⟩
theorem rdoes_16 (ra : Option Addr) (rn rc : Nat) (rest : List Int) (va : Option Addr) (vc : Nat) (vs : List Int) (w : World) (hR : Sl w ra rn rc (ints rest)) (h : Sl w va 2 vc (ints vs)) (hI : I64s vs) (hrn : rn ≤ 1000000) : Calls Tryz.prog 23 #[.int .i64 16, .slice ra rn rc, .slice va 2 vc] w (RdEnd w (joinR rest ((fun vs => .ok (cho [0, 1, 0] vs)) vs))) := by
  have hM := Lib.hid (rmov_16 va vc vs w h)
  have hRR := Lib.hid hR
  clear h hI hR
  show Calls _ _ _ _ (RdEnd w (.ok (rest, cho [0, 1, 0] vs)))
  go_enter Tryz.func23, Tryz.ntmps23
  go_wp2_with (go_at_call 37; (with_reducible refine hM.out.mono ?_); rintro e w1 ⟨a1, n1, c1, rfl, hs1, hb1⟩)
  go_ret3
  exact ⟨_, _, _, _, _, _, rfl, hRR.out.below hb1, hs1, hb1⟩
theorem rdoes_17 (ra : Option Addr) (rn rc : Nat) (rest : List Int) (va : Option Addr) (vc : Nat) (vs : List Int) (w : World) (hR : Sl w ra rn rc (ints rest)) (h : Sl w va 3 vc (ints vs)) (hI : I64s vs) (hrn : rn ≤ 1000000) : Calls Tryz.prog 23 #[.int .i64 17, .slice ra rn rc, .slice va 3 vc] w (RdEnd w (joinR rest ((fun vs => .ok (cho [1, 2, 0] vs)) vs))) := by
  have hM := Lib.hid (rmov_17 va vc vs w h)
  have hRR := Lib.hid hR
  clear h hI hR
  show Calls _ _ _ _ (RdEnd w (.ok (rest, cho [1, 2, 0] vs)))
  go_enter Tryz.func23, Tryz.ntmps23
  go_wp2_with (go_at_call 37; (with_reducible refine hM.out.mono ?_); rintro e w1 ⟨a1, n1, c1, rfl, hs1, hb1⟩)
  go_ret3
  exact ⟨_, _, _, _, _, _, rfl, hRR.out.below hb1, hs1, hb1⟩
theorem rdoes_18 (ra : Option Addr) (rn rc : Nat) (rest : List Int) (va : Option Addr) (vc : Nat) (vs : List Int) (w : World) (hR : Sl w ra rn rc (ints rest)) (h : Sl w va 2 vc (ints vs)) (hI : I64s vs) (hrn : rn ≤ 1000000) : Calls Tryz.prog 23 #[.int .i64 18, .slice ra rn rc, .slice va 2 vc] w (RdEnd w (joinR rest ((fun vs => .ok (cho [1] vs)) vs))) := by
  have hM := Lib.hid (rmov_18 va vc vs w h)
  have hRR := Lib.hid hR
  clear h hI hR
  show Calls _ _ _ _ (RdEnd w (.ok (rest, cho [1] vs)))
  go_enter Tryz.func23, Tryz.ntmps23
  go_wp2_with (go_at_call 37; (with_reducible refine hM.out.mono ?_); rintro e w1 ⟨a1, n1, c1, rfl, hs1, hb1⟩)
  go_ret3
  exact ⟨_, _, _, _, _, _, rfl, hRR.out.below hb1, hs1, hb1⟩
theorem rdoes_19 (ra : Option Addr) (rn rc : Nat) (rest : List Int) (va : Option Addr) (vc : Nat) (vs : List Int) (w : World) (hR : Sl w ra rn rc (ints rest)) (h : Sl w va 2 vc (ints vs)) (hI : I64s vs) (hrn : rn ≤ 1000000) : Calls Tryz.prog 23 #[.int .i64 19, .slice ra rn rc, .slice va 2 vc] w (RdEnd w (joinR rest ((fun vs => .ok (cho [1, 0, 1] vs)) vs))) := by
  have hM := Lib.hid (rmov_19 va vc vs w h)
  have hRR := Lib.hid hR
  clear h hI hR
  show Calls _ _ _ _ (RdEnd w (.ok (rest, cho [1, 0, 1] vs)))
  go_enter Tryz.func23, Tryz.ntmps23
  go_wp2_with (go_at_call 37; (with_reducible refine hM.out.mono ?_); rintro e w1 ⟨a1, n1, c1, rfl, hs1, hb1⟩)
  go_ret3
  exact ⟨_, _, _, _, _, _, rfl, hRR.out.below hb1, hs1, hb1⟩
theorem rdoes_20 (ra : Option Addr) (rn rc : Nat) (rest : List Int) (va : Option Addr) (vc : Nat) (vs : List Int) (w : World) (hR : Sl w ra rn rc (ints rest)) (h : Sl w va 1 vc (ints vs)) (hI : I64s vs) (hrn : rn ≤ 1000000) : Calls Tryz.prog 23 #[.int .i64 20, .slice ra rn rc, .slice va 1 vc] w (RdEnd w (joinR rest (twiG vs))) := by
  have hM := Lib.hid (rmov_20 va vc vs w h)
  have hRR := Lib.hid hR
  clear h hI hR
  show Calls _ _ _ _ (RdEnd w (.ok (rest, if vs.getD 0 0 = 0 then vs else cho [0, 0] vs)))
  generalize (if vs.getD 0 0 = 0 then vs else cho [0, 0] vs) = us at *
  go_enter Tryz.func23, Tryz.ntmps23
  go_wp2_with (go_at_call 37; (with_reducible refine hM.out.mono ?_); rintro e w1 ⟨a1, n1, c1, rfl, hs1, hb1⟩)
  go_ret3
  exact ⟨_, _, _, _, _, _, rfl, hRR.out.below hb1, hs1, hb1⟩
theorem rdoes_21 (ra : Option Addr) (rn rc : Nat) (rest : List Int) (va : Option Addr) (vc : Nat) (vs : List Int) (w : World) (hR : Sl w ra rn rc (ints rest)) (h : Sl w va 2 vc (ints vs)) (hI : I64s vs) (hrn : rn ≤ 1000000) : Calls Tryz.prog 23 #[.int .i64 21, .slice ra rn rc, .slice va 2 vc] w (RdEnd w (joinR rest ((fun vs => .ok (cho [0, 1, 0, 1] vs)) vs))) := by
  have hM := Lib.hid (rmov_21 va vc vs w h)
  have hRR := Lib.hid hR
  clear h hI hR
  show Calls _ _ _ _ (RdEnd w (.ok (rest, cho [0, 1, 0, 1] vs)))
  go_enter Tryz.func23, Tryz.ntmps23
  go_wp2_with (go_at_call 37; (with_reducible refine hM.out.mono ?_); rintro e w1 ⟨a1, n1, c1, rfl, hs1, hb1⟩)
  go_ret3
  exact ⟨_, _, _, _, _, _, rfl, hRR.out.below hb1, hs1, hb1⟩
theorem rdoes_22 (ra : Option Addr) (rn rc : Nat) (rest : List Int) (va : Option Addr) (vc : Nat) (vs : List Int) (w : World) (hR : Sl w ra rn rc (ints rest)) (h : Sl w va 2 vc (ints vs)) (hI : I64s vs) (hrn : rn ≤ 1000000) : Calls Tryz.prog 23 #[.int .i64 22, .slice ra rn rc, .slice va 2 vc] w (RdEnd w (joinR rest ((fun vs => .ok (cho [] vs)) vs))) := by
  have hM := Lib.hid (rmov_22 va vc vs w h)
  have hRR := Lib.hid hR
  clear h hI hR
  show Calls _ _ _ _ (RdEnd w (.ok (rest, cho [] vs)))
  go_enter Tryz.func23, Tryz.ntmps23
  go_wp2_with (go_at_call 37; (with_reducible refine hM.out.mono ?_); rintro e w1 ⟨a1, n1, c1, rfl, hs1, hb1⟩)
  go_ret3
  exact ⟨_, _, _, _, _, _, rfl, hRR.out.below hb1, hs1, hb1⟩
theorem rdoes_23 (ra : Option Addr) (rn rc : Nat) (rest : List Int) (va : Option Addr) (vc : Nat) (vs : List Int) (w : World) (hR : Sl w ra rn rc (ints rest)) (h : Sl w va 4 vc (ints vs)) (hI : I64s vs) (hrn : rn ≤ 1000000) : Calls Tryz.prog 23 #[.int .i64 23, .slice ra rn rc, .slice va 4 vc] w (RdEnd w (joinR rest ((fun vs => .ok (cho [2, 3, 0, 1] vs)) vs))) := by
  have hM := Lib.hid (rmov_23 va vc vs w h)
  have hRR := Lib.hid hR
  clear h hI hR
  show Calls _ _ _ _ (RdEnd w (.ok (rest, cho [2, 3, 0, 1] vs)))
  go_enter Tryz.func23, Tryz.ntmps23
  go_wp2_with (go_at_call 37; (with_reducible refine hM.out.mono ?_); rintro e w1 ⟨a1, n1, c1, rfl, hs1, hb1⟩)
  go_ret3
  exact ⟨_, _, _, _, _, _, rfl, hRR.out.below hb1, hs1, hb1⟩
theorem rdoes_24 (ra : Option Addr) (rn rc : Nat) (rest : List Int) (va : Option Addr) (vc : Nat) (vs : List Int) (w : World) (hR : Sl w ra rn rc (ints rest)) (h : Sl w va 4 vc (ints vs)) (hI : I64s vs) (hrn : rn ≤ 1000000) : Calls Tryz.prog 23 #[.int .i64 24, .slice ra rn rc, .slice va 4 vc] w (RdEnd w (joinR rest ((fun vs => .ok (cho [0, 1, 2, 3, 0, 1] vs)) vs))) := by
  have hM := Lib.hid (rmov_24 va vc vs w h)
  have hRR := Lib.hid hR
  clear h hI hR
  show Calls _ _ _ _ (RdEnd w (.ok (rest, cho [0, 1, 2, 3, 0, 1] vs)))
  go_enter Tryz.func23, Tryz.ntmps23
  go_wp2_with (go_at_call 37; (with_reducible refine hM.out.mono ?_); rintro e w1 ⟨a1, n1, c1, rfl, hs1, hb1⟩)
  go_ret3
  exact ⟨_, _, _, _, _, _, rfl, hRR.out.below hb1, hs1, hb1⟩
theorem rdoes_25 (ra : Option Addr) (rn rc : Nat) (rest : List Int) (va : Option Addr) (vc : Nat) (vs : List Int) (w : World) (hR : Sl w ra rn rc (ints rest)) (h : Sl w va 1 vc (ints vs)) (hI : I64s vs) (hrn : rn ≤ 1000000) : Calls Tryz.prog 23 #[.int .i64 25, .slice ra rn rc, .slice va 1 vc] w (RdEnd w (if Sk.tPick rn (vs.getD 0 0) = 0 then .ok (rest, [Sk.pickV rest (vs.getD 0 0)]) else .error (-4))) := by
  have hMn := Lib.hid (rmov_no 25 va 1 vc w (by decide))
  have hDn := Lib.hid (rdvs_no 25 va 1 vc w (by decide))
  have hRR := Lib.hid hR
  have hrb := hR.bd
  have hn := h.nums
  have hbd := h.bd
  obtain ⟨b, o, rfl, g0⟩ := h.int (i := 0) (by omega)
  have h0 := hI.at (i := 0)
  have hP := Lib.hid (Sk.rpick_any ra rn rc rest (vs.getD 0 0) w hR h0)
  generalize vs.getD 0 0 = x0 at *
  simp only [Nat.add_zero] at g0
  clear h hI hR h0 hn
  by_cases ht : Sk.tPick rn x0 = 0
  · rw [if_pos ht]
    rw [ht] at hP
    clear ht
    generalize Sk.pickV rest x0 = v at *
    go_enter Tryz.func23, Tryz.ntmps23
    go_wp2_with (first | (go_at_call 37; (with_reducible refine hMn.out.mono ?_); rintro e w1 ⟨rfl, rfl⟩) | (go_at_call 38; (with_reducible refine hDn.out.mono ?_); rintro e w1 ⟨rfl, rfl⟩) | (go_at_call 39; (with_reducible refine hP.out.mono ?_); rintro e w2 ⟨rfl, rfl⟩))
    go_ret3
    exact ⟨_, _, _, _, _, _, rfl, hRR.out.below (Sk.fresh w [v] (by simp)).2, (Sk.fresh w [v] (by simp)).1, (Sk.fresh w [v] (by simp)).2⟩
  · rw [if_neg ht]
    rw [(Sk.tPick_no ht).2] at hP
    clear ht
    generalize Sk.pickV rest x0 = v at *
    go_enter Tryz.func23, Tryz.ntmps23
    go_wp2_with (first | (go_at_call 37; (with_reducible refine hMn.out.mono ?_); rintro e w1 ⟨rfl, rfl⟩) | (go_at_call 38; (with_reducible refine hDn.out.mono ?_); rintro e w1 ⟨rfl, rfl⟩) | (go_at_call 39; (with_reducible refine hP.out.mono ?_); rintro e w2 ⟨rfl, rfl⟩))
    go_ret3
    exact ⟨by decide, _, _, _, _, _, _, rfl, (Sk.fresh w [v] (by simp)).2⟩
theorem rdoes_26 (ra : Option Addr) (rn rc : Nat) (rest : List Int) (va : Option Addr) (vc : Nat) (vs : List Int) (w : World) (hR : Sl w ra rn rc (ints rest)) (h : Sl w va 1 vc (ints vs)) (hI : I64s vs) (hrn : rn ≤ 1000000) : Calls Tryz.prog 23 #[.int .i64 26, .slice ra rn rc, .slice va 1 vc] w (RdEnd w (if Sk.tPick rn (vs.getD 0 0) = 0 then .ok (Sk.rollX rest (vs.getD 0 0), []) else .error (-4))) := by
  have hMn := Lib.hid (rmov_no 26 va 1 vc w (by decide))
  have hDn := Lib.hid (rdvs_no 26 va 1 vc w (by decide))
  have hRR := Lib.hid hR
  have hrb := hR.bd
  have hn := h.nums
  have hbd := h.bd
  obtain ⟨b, o, rfl, g0⟩ := h.int (i := 0) (by omega)
  have h0 := hI.at (i := 0)
  have hP := Lib.hid (Sk.rroll_any ra rn rc rest (vs.getD 0 0) w hR (by omega) h0)
  generalize vs.getD 0 0 = x0 at *
  simp only [Nat.add_zero] at g0
  clear h hI hR h0 hn
  by_cases ht : Sk.tPick rn x0 = 0
  · rw [if_pos ht]
    rw [ht] at hP
    clear ht
    generalize Sk.rollX rest x0 = v at *
    go_enter Tryz.func23, Tryz.ntmps23
    go_wp2_with (first | (go_at_call 37; (with_reducible refine hMn.out.mono ?_); rintro e w1 ⟨rfl, rfl⟩) | (go_at_call 38; (with_reducible refine hDn.out.mono ?_); rintro e w1 ⟨rfl, rfl⟩) | (go_at_call 40; (with_reducible refine hP.out.mono ?_); rintro e w2 ⟨a5, c5, rfl, hs5, hb5⟩; replace hs5 := Lib.hid hs5))
    go_ret3
    exact ⟨_, _, _, _, _, _, rfl, hs5.out, Sk.Sl.zero _, hb5⟩
  · rw [if_neg ht]
    rw [(Sk.tPick_no ht).2] at hP
    clear ht
    generalize Sk.rollX rest x0 = v at *
    go_enter Tryz.func23, Tryz.ntmps23
    go_wp2_with (first | (go_at_call 37; (with_reducible refine hMn.out.mono ?_); rintro e w1 ⟨rfl, rfl⟩) | (go_at_call 38; (with_reducible refine hDn.out.mono ?_); rintro e w1 ⟨rfl, rfl⟩) | (go_at_call 40; (with_reducible refine hP.out.mono ?_); rintro e w2 ⟨a5, c5, rfl, hs5, hb5⟩; replace hs5 := Lib.hid hs5))
    go_ret3
    exact ⟨by decide, _, _, _, _, _, _, rfl, hb5⟩
theorem rdoes_27 (ra : Option Addr) (rn rc : Nat) (rest : List Int) (va : Option Addr) (vc : Nat) (vs : List Int) (w : World) (hR : Sl w ra rn rc (ints rest)) (h : Sl w va 0 vc (ints vs)) (hI : I64s vs) (hrn : rn ≤ 1000000) : Calls Tryz.prog 23 #[.int .i64 27, .slice ra rn rc, .slice va 0 vc] w (RdEnd w (.ok (rest, [(rn : Int)]))) := by
  have hMn := Lib.hid (rmov_no 27 va 0 vc w (by decide))
  have hDn := Lib.hid (rdvs_no 27 va 0 vc w (by decide))
  have hRR := Lib.hid hR
  have hrb := hR.bd
  clear h hI hR
  show Calls _ _ _ _ (RdEnd w (.ok (rest, [(rn : Int)])))
  go_enter Tryz.func23, Tryz.ntmps23
  go_wp2_with (first | (go_at_call 37; (with_reducible refine hMn.out.mono ?_); rintro e w1 ⟨rfl, rfl⟩) | (go_at_call 38; (with_reducible refine hDn.out.mono ?_); rintro e w1 ⟨rfl, rfl⟩))
  go_ret3
  exact ⟨_, _, _, _, _, _, rfl, hRR.out.below (Sk.fresh w [(rn : Int)] (by simp)).2, (Sk.fresh w [(rn : Int)] (by simp)).1, (Sk.fresh w [(rn : Int)] (by simp)).2⟩
theorem rdoes_28 (ra : Option Addr) (rn rc : Nat) (rest : List Int) (va : Option Addr) (vc : Nat) (vs : List Int) (w : World) (hR : Sl w ra rn rc (ints rest)) (h : Sl w va 2 vc (ints vs)) (hI : I64s vs) (hrn : rn ≤ 1000000) : Calls Tryz.prog 23 #[.int .i64 28, .slice ra rn rc, .slice va 2 vc] w (RdEnd w (joinR rest ((fun vs => .ok [(fun x y => wrap64 (x + y)) (vs.getD 0 0) (vs.getD 1 0)]) vs))) :=
  rdoes_pair 28 (wrap64 ((vs.getD 0 0) + (vs.getD 1 0))) ra rn rc rest va vc vs w (by decide) (by decide) (by decide) hR h (fun V => rpai_28 _ _ V hI.at hI.at)
theorem rdoes_29 (ra : Option Addr) (rn rc : Nat) (rest : List Int) (va : Option Addr) (vc : Nat) (vs : List Int) (w : World) (hR : Sl w ra rn rc (ints rest)) (h : Sl w va 2 vc (ints vs)) (hI : I64s vs) (hrn : rn ≤ 1000000) : Calls Tryz.prog 23 #[.int .i64 29, .slice ra rn rc, .slice va 2 vc] w (RdEnd w (joinR rest ((fun vs => .ok [(fun x y => wrap64 (x - y)) (vs.getD 0 0) (vs.getD 1 0)]) vs))) :=
  rdoes_pair 29 (wrap64 ((vs.getD 0 0) - (vs.getD 1 0))) ra rn rc rest va vc vs w (by decide) (by decide) (by decide) hR h (fun V => rpai_29 _ _ V hI.at hI.at)
theorem rdoes_30 (ra : Option Addr) (rn rc : Nat) (rest : List Int) (va : Option Addr) (vc : Nat) (vs : List Int) (w : World) (hR : Sl w ra rn rc (ints rest)) (h : Sl w va 2 vc (ints vs)) (hI : I64s vs) (hrn : rn ≤ 1000000) : Calls Tryz.prog 23 #[.int .i64 30, .slice ra rn rc, .slice va 2 vc] w (RdEnd w (joinR rest ((fun vs => .ok [(fun x y => wrap64 (x * y)) (vs.getD 0 0) (vs.getD 1 0)]) vs))) :=
  rdoes_pair 30 (wrap64 ((vs.getD 0 0) * (vs.getD 1 0))) ra rn rc rest va vc vs w (by decide) (by decide) (by decide) hR h (fun V => rpai_30 _ _ V hI.at hI.at)
end Go.Proofs.YtobijdfnafnodaaGreatDoor
