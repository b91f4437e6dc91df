/- What the document's does makes of each word's values (3 of 4). Written by wip/gen/aluref.py. -/
import Derived.Test.YtobijdfnafnodaaGreatDoorAluRdo0
import Derived.StillTailTactics
namespace Go.Proofs.YtobijdfnafnodaaGreatDoor
set_option maxRecDepth 100000
open Go.ChangeShapes Go.WideShapes Go.ChangeAt Go.RowKit
open Sk (Sl ints Own)
set_option linter.unusedVariables false

theorem rdoes_42 (ra : Option Addr) (rn rc : Nat) (rest : List Int) (va : Option Addr) (vc : Nat) (vs : List Int) (w : World) (hR : Sl w ra rn rc (ints rest)) (h : Sl w va 2 vc (ints vs)) (hI : I64s vs) (hrn : rn ≤ 1000000) : Calls Tryz.prog 23 #[.int .i64 42, .slice ra rn rc, .slice va 2 vc] w (RdEnd w (joinR rest ((fun vs => .ok [(fun x y => min x y) (vs.getD 0 0) (vs.getD 1 0)]) vs))) :=
  rdoes_pair 42 (min (vs.getD 0 0) (vs.getD 1 0)) ra rn rc rest va vc vs w (by decide) (by decide) (by decide) hR h (fun V => rpai_42 _ _ V hI.at hI.at)
theorem rdoes_43 (ra : Option Addr) (rn rc : Nat) (rest : List Int) (va : Option Addr) (vc : Nat) (vs : List Int) (w : World) (hR : Sl w ra rn rc (ints rest)) (h : Sl w va 2 vc (ints vs)) (hI : I64s vs) (hrn : rn ≤ 1000000) : Calls Tryz.prog 23 #[.int .i64 43, .slice ra rn rc, .slice va 2 vc] w (RdEnd w (joinR rest ((fun vs => .ok [(fun x y => max x y) (vs.getD 0 0) (vs.getD 1 0)]) vs))) :=
  rdoes_pair 43 (max (vs.getD 0 0) (vs.getD 1 0)) ra rn rc rest va vc vs w (by decide) (by decide) (by decide) hR h (fun V => rpai_43 _ _ V hI.at hI.at)
theorem rdoes_44 (ra : Option Addr) (rn rc : Nat) (rest : List Int) (va : Option Addr) (vc : Nat) (vs : List Int) (w : World) (hR : Sl w ra rn rc (ints rest)) (h : Sl w va 2 vc (ints vs)) (hI : I64s vs) (hrn : rn ≤ 1000000) : Calls Tryz.prog 23 #[.int .i64 44, .slice ra rn rc, .slice va 2 vc] w (RdEnd w (joinR rest ((fun vs => .ok [(fun x y => bits .and .i64 x y) (vs.getD 0 0) (vs.getD 1 0)]) vs))) :=
  rdoes_pair 44 (bits .and .i64 (vs.getD 0 0) (vs.getD 1 0)) ra rn rc rest va vc vs w (by decide) (by decide) (by decide) hR h (fun V => rpai_44 _ _ V hI.at hI.at)
theorem rdoes_45 (ra : Option Addr) (rn rc : Nat) (rest : List Int) (va : Option Addr) (vc : Nat) (vs : List Int) (w : World) (hR : Sl w ra rn rc (ints rest)) (h : Sl w va 2 vc (ints vs)) (hI : I64s vs) (hrn : rn ≤ 1000000) : Calls Tryz.prog 23 #[.int .i64 45, .slice ra rn rc, .slice va 2 vc] w (RdEnd w (joinR rest ((fun vs => .ok [(fun x y => bits .or .i64 x y) (vs.getD 0 0) (vs.getD 1 0)]) vs))) :=
  rdoes_pair 45 (bits .or .i64 (vs.getD 0 0) (vs.getD 1 0)) ra rn rc rest va vc vs w (by decide) (by decide) (by decide) hR h (fun V => rpai_45 _ _ V hI.at hI.at)
theorem rdoes_46 (ra : Option Addr) (rn rc : Nat) (rest : List Int) (va : Option Addr) (vc : Nat) (vs : List Int) (w : World) (hR : Sl w ra rn rc (ints rest)) (h : Sl w va 2 vc (ints vs)) (hI : I64s vs) (hrn : rn ≤ 1000000) : Calls Tryz.prog 23 #[.int .i64 46, .slice ra rn rc, .slice va 2 vc] w (RdEnd w (joinR rest ((fun vs => .ok [(fun x y => bits .xor .i64 x y) (vs.getD 0 0) (vs.getD 1 0)]) vs))) :=
  rdoes_pair 46 (bits .xor .i64 (vs.getD 0 0) (vs.getD 1 0)) ra rn rc rest va vc vs w (by decide) (by decide) (by decide) hR h (fun V => rpai_46 _ _ V hI.at hI.at)
theorem rdoes_47 (ra : Option Addr) (rn rc : Nat) (rest : List Int) (va : Option Addr) (vc : Nat) (vs : List Int) (w : World) (hR : Sl w ra rn rc (ints rest)) (h : Sl w va 1 vc (ints vs)) (hI : I64s vs) (hrn : rn ≤ 1000000) : Calls Tryz.prog 23 #[.int .i64 47, .slice ra rn rc, .slice va 1 vc] w (RdEnd w (joinR rest ((fun vs => lst ((fun x => .ok (-1 - x)) (vs.getD 0 0))) vs))) := by
  have hMn := Lib.hid (rmov_no 47 va 1 vc w (by decide))
  have hDn := Lib.hid (rdvs_no 47 va 1 vc w (by decide))
  have hRR := Lib.hid hR
  have hrb := hR.bd
  have hn := h.nums
  have hbd := h.bd
  obtain ⟨b, o, rfl, g0⟩ := h.int (i := 0) (by omega)
  have h0 := hI.at (i := 0)
  have hA := Lib.hid (ralo_47 (vs.getD 0 0) w h0)
  show Calls _ _ _ _ (RdEnd w (.ok (rest, [-1 - (vs.getD 0 0)])))
  generalize vs.getD 0 0 = x0 at *
  simp only [Nat.add_zero] at g0
  clear h hI hR h0 hn
  generalize -1 - x0 = v at *
  go_enter Tryz.func23, Tryz.ntmps23
  go_wp2_with (first | (go_at_call 37; (with_reducible refine hMn.out.mono ?_); rintro e w1 ⟨rfl, rfl⟩) | (go_at_call 38; (with_reducible refine hDn.out.mono ?_); rintro e w1 ⟨rfl, rfl⟩) | (go_at_call 44; (with_reducible refine hA.out.mono ?_); rintro e w2 ⟨rfl, hb2⟩))
  go_ret3
  obtain ⟨f1, f2⟩ := Sk.fresh w2 [v] (by simp)
  exact ⟨_, _, _, _, _, _, rfl, (hRR.out.below hb2).below f2, f1, hb2.trans (f2.mono hb2.size)⟩
theorem rdoes_48 (ra : Option Addr) (rn rc : Nat) (rest : List Int) (va : Option Addr) (vc : Nat) (vs : List Int) (w : World) (hR : Sl w ra rn rc (ints rest)) (h : Sl w va 2 vc (ints vs)) (hI : I64s vs) (hrn : rn ≤ 1000000) : Calls Tryz.prog 23 #[.int .i64 48, .slice ra rn rc, .slice va 2 vc] w (RdEnd w (joinR rest ((fun vs => .ok [Ce.lshI (vs.getD 0 0) (vs.getD 1 0)]) vs))) :=
  rdoes_pair 48 (Ce.lshI (vs.getD 0 0) (vs.getD 1 0)) ra rn rc rest va vc vs w (by decide) (by decide) (by decide) hR h (fun V => rpai_48 _ _ V hI.at hI.at)
theorem rdoes_49 (ra : Option Addr) (rn rc : Nat) (rest : List Int) (va : Option Addr) (vc : Nat) (vs : List Int) (w : World) (hR : Sl w ra rn rc (ints rest)) (h : Sl w va 2 vc (ints vs)) (hI : I64s vs) (hrn : rn ≤ 1000000) : Calls Tryz.prog 23 #[.int .i64 49, .slice ra rn rc, .slice va 2 vc] w (RdEnd w (joinR rest ((fun vs => .ok [Ce.rshI (vs.getD 0 0) (vs.getD 1 0)]) vs))) :=
  rdoes_pair 49 (Ce.rshI (vs.getD 0 0) (vs.getD 1 0)) ra rn rc rest va vc vs w (by decide) (by decide) (by decide) hR h (fun V => rpai_49 _ _ V hI.at hI.at)
theorem rdoes_50 (ra : Option Addr) (rn rc : Nat) (rest : List Int) (va : Option Addr) (vc : Nat) (vs : List Int) (w : World) (hR : Sl w ra rn rc (ints rest)) (h : Sl w va 2 vc (ints vs)) (hI : I64s vs) (hrn : rn ≤ 1000000) : Calls Tryz.prog 23 #[.int .i64 50, .slice ra rn rc, .slice va 2 vc] w (RdEnd w (joinR rest ((fun vs => .ok [Ce.flagI ((fun x y => x == y) (vs.getD 0 0) (vs.getD 1 0))]) vs))) :=
  rdoes_pair 50 (Ce.flagI ((vs.getD 0 0) == (vs.getD 1 0))) ra rn rc rest va vc vs w (by decide) (by decide) (by decide) hR h (fun V => rpai_50 _ _ V hI.at hI.at)
theorem rdoes_51 (ra : Option Addr) (rn rc : Nat) (rest : List Int) (va : Option Addr) (vc : Nat) (vs : List Int) (w : World) (hR : Sl w ra rn rc (ints rest)) (h : Sl w va 2 vc (ints vs)) (hI : I64s vs) (hrn : rn ≤ 1000000) : Calls Tryz.prog 23 #[.int .i64 51, .slice ra rn rc, .slice va 2 vc] w (RdEnd w (joinR rest ((fun vs => .ok [Ce.flagI ((fun x y => x != y) (vs.getD 0 0) (vs.getD 1 0))]) vs))) :=
  rdoes_pair 51 (Ce.flagI ((vs.getD 0 0) != (vs.getD 1 0))) ra rn rc rest va vc vs w (by decide) (by decide) (by decide) hR h (fun V => rpai_51 _ _ V hI.at hI.at)
theorem rdoes_52 (ra : Option Addr) (rn rc : Nat) (rest : List Int) (va : Option Addr) (vc : Nat) (vs : List Int) (w : World) (hR : Sl w ra rn rc (ints rest)) (h : Sl w va 2 vc (ints vs)) (hI : I64s vs) (hrn : rn ≤ 1000000) : Calls Tryz.prog 23 #[.int .i64 52, .slice ra rn rc, .slice va 2 vc] w (RdEnd w (joinR rest ((fun vs => .ok [Ce.flagI ((fun x y => decide (x < y)) (vs.getD 0 0) (vs.getD 1 0))]) vs))) :=
  rdoes_pair 52 (Ce.flagI (decide ((vs.getD 0 0) < (vs.getD 1 0)))) ra rn rc rest va vc vs w (by decide) (by decide) (by decide) hR h (fun V => rpai_52 _ _ V hI.at hI.at)
theorem rdoes_53 (ra : Option Addr) (rn rc : Nat) (rest : List Int) (va : Option Addr) (vc : Nat) (vs : List Int) (w : World) (hR : Sl w ra rn rc (ints rest)) (h : Sl w va 2 vc (ints vs)) (hI : I64s vs) (hrn : rn ≤ 1000000) : Calls Tryz.prog 23 #[.int .i64 53, .slice ra rn rc, .slice va 2 vc] w (RdEnd w (joinR rest ((fun vs => .ok [Ce.flagI ((fun x y => decide (y < x)) (vs.getD 0 0) (vs.getD 1 0))]) vs))) :=
  rdoes_pair 53 (Ce.flagI (decide ((vs.getD 1 0) < (vs.getD 0 0)))) ra rn rc rest va vc vs w (by decide) (by decide) (by decide) hR h (fun V => rpai_53 _ _ V hI.at hI.at)
theorem rdoes_54 (ra : Option Addr) (rn rc : Nat) (rest : List Int) (va : Option Addr) (vc : Nat) (vs : List Int) (w : World) (hR : Sl w ra rn rc (ints rest)) (h : Sl w va 2 vc (ints vs)) (hI : I64s vs) (hrn : rn ≤ 1000000) : Calls Tryz.prog 23 #[.int .i64 54, .slice ra rn rc, .slice va 2 vc] w (RdEnd w (joinR rest ((fun vs => .ok [Ce.flagI (Ce.belB (vs.getD 0 0) (vs.getD 1 0))]) vs))) :=
  rdoes_pair 54 (Ce.flagI (Ce.belB (vs.getD 0 0) (vs.getD 1 0))) ra rn rc rest va vc vs w (by decide) (by decide) (by decide) hR h (fun V => rpai_54 _ _ V hI.at hI.at)
theorem rdoes_55 (ra : Option Addr) (rn rc : Nat) (rest : List Int) (va : Option Addr) (vc : Nat) (vs : List Int) (w : World) (hR : Sl w ra rn rc (ints rest)) (h : Sl w va 1 vc (ints vs)) (hI : I64s vs) (hrn : rn ≤ 1000000) : Calls Tryz.prog 23 #[.int .i64 55, .slice ra rn rc, .slice va 1 vc] w (RdEnd w (joinR rest ((fun vs => .ok [Ce.flagI ((fun x => x == 0) (vs.getD 0 0))]) vs))) := by
  have hMn := Lib.hid (rmov_no 55 va 1 vc w (by decide))
  have hDn := Lib.hid (rdvs_no 55 va 1 vc w (by decide))
  have hRR := Lib.hid hR
  have hrb := hR.bd
  have hn := h.nums
  have hbd := h.bd
  obtain ⟨b, o, rfl, g0⟩ := h.int (i := 0) (by omega)
  have h0 := hI.at (i := 0)
  have hA := Lib.hid (ralo_55 (vs.getD 0 0) w h0)
  show Calls _ _ _ _ (RdEnd w (.ok (rest, [Ce.flagI ((vs.getD 0 0) == 0)])))
  generalize vs.getD 0 0 = x0 at *
  simp only [Nat.add_zero] at g0
  clear h hI hR h0 hn
  generalize Ce.flagI (x0 == 0) = v at *
  go_enter Tryz.func23, Tryz.ntmps23
  go_wp2_with (first | (go_at_call 37; (with_reducible refine hMn.out.mono ?_); rintro e w1 ⟨rfl, rfl⟩) | (go_at_call 38; (with_reducible refine hDn.out.mono ?_); rintro e w1 ⟨rfl, rfl⟩) | (go_at_call 44; (with_reducible refine hA.out.mono ?_); rintro e w2 ⟨rfl, hb2⟩))
  go_ret3
  obtain ⟨f1, f2⟩ := Sk.fresh w2 [v] (by simp)
  exact ⟨_, _, _, _, _, _, rfl, (hRR.out.below hb2).below f2, f1, hb2.trans (f2.mono hb2.size)⟩
theorem rdoes_56 (ra : Option Addr) (rn rc : Nat) (rest : List Int) (va : Option Addr) (vc : Nat) (vs : List Int) (w : World) (hR : Sl w ra rn rc (ints rest)) (h : Sl w va 1 vc (ints vs)) (hI : I64s vs) (hrn : rn ≤ 1000000) : Calls Tryz.prog 23 #[.int .i64 56, .slice ra rn rc, .slice va 1 vc] w (RdEnd w (joinR rest ((fun vs => .ok [Ce.flagI ((fun x => decide (x < 0)) (vs.getD 0 0))]) vs))) := by
  have hMn := Lib.hid (rmov_no 56 va 1 vc w (by decide))
  have hDn := Lib.hid (rdvs_no 56 va 1 vc w (by decide))
  have hRR := Lib.hid hR
  have hrb := hR.bd
  have hn := h.nums
  have hbd := h.bd
  obtain ⟨b, o, rfl, g0⟩ := h.int (i := 0) (by omega)
  have h0 := hI.at (i := 0)
  have hA := Lib.hid (ralo_56 (vs.getD 0 0) w h0)
  show Calls _ _ _ _ (RdEnd w (.ok (rest, [Ce.flagI (decide ((vs.getD 0 0) < 0))])))
  generalize vs.getD 0 0 = x0 at *
  simp only [Nat.add_zero] at g0
  clear h hI hR h0 hn
  generalize Ce.flagI (decide (x0 < 0)) = v at *
  go_enter Tryz.func23, Tryz.ntmps23
  go_wp2_with (first | (go_at_call 37; (with_reducible refine hMn.out.mono ?_); rintro e w1 ⟨rfl, rfl⟩) | (go_at_call 38; (with_reducible refine hDn.out.mono ?_); rintro e w1 ⟨rfl, rfl⟩) | (go_at_call 44; (with_reducible refine hA.out.mono ?_); rintro e w2 ⟨rfl, hb2⟩))
  go_ret3
  obtain ⟨f1, f2⟩ := Sk.fresh w2 [v] (by simp)
  exact ⟨_, _, _, _, _, _, rfl, (hRR.out.below hb2).below f2, f1, hb2.trans (f2.mono hb2.size)⟩
theorem rdoes_57 (ra : Option Addr) (rn rc : Nat) (rest : List Int) (va : Option Addr) (vc : Nat) (vs : List Int) (w : World) (hR : Sl w ra rn rc (ints rest)) (h : Sl w va 1 vc (ints vs)) (hI : I64s vs) (hrn : rn ≤ 1000000) : Calls Tryz.prog 23 #[.int .i64 57, .slice ra rn rc, .slice va 1 vc] w (RdEnd w (joinR rest ((fun vs => .ok [Ce.flagI ((fun x => x != 0) (vs.getD 0 0))]) vs))) := by
  have hMn := Lib.hid (rmov_no 57 va 1 vc w (by decide))
  have hDn := Lib.hid (rdvs_no 57 va 1 vc w (by decide))
  have hRR := Lib.hid hR
  have hrb := hR.bd
  have hn := h.nums
  have hbd := h.bd
  obtain ⟨b, o, rfl, g0⟩ := h.int (i := 0) (by omega)
  have h0 := hI.at (i := 0)
  have hA := Lib.hid (ralo_57 (vs.getD 0 0) w h0)
  show Calls _ _ _ _ (RdEnd w (.ok (rest, [Ce.flagI ((vs.getD 0 0) != 0)])))
  generalize vs.getD 0 0 = x0 at *
  simp only [Nat.add_zero] at g0
  clear h hI hR h0 hn
  generalize Ce.flagI (x0 != 0) = v at *
  go_enter Tryz.func23, Tryz.ntmps23
  go_wp2_with (first | (go_at_call 37; (with_reducible refine hMn.out.mono ?_); rintro e w1 ⟨rfl, rfl⟩) | (go_at_call 38; (with_reducible refine hDn.out.mono ?_); rintro e w1 ⟨rfl, rfl⟩) | (go_at_call 44; (with_reducible refine hA.out.mono ?_); rintro e w2 ⟨rfl, hb2⟩))
  go_ret3
  obtain ⟨f1, f2⟩ := Sk.fresh w2 [v] (by simp)
  exact ⟨_, _, _, _, _, _, rfl, (hRR.out.below hb2).below f2, f1, hb2.trans (f2.mono hb2.size)⟩
theorem rdoes_58 (ra : Option Addr) (rn rc : Nat) (rest : List Int) (va : Option Addr) (vc : Nat) (vs : List Int) (w : World) (hR : Sl w ra rn rc (ints rest)) (h : Sl w va 1 vc (ints vs)) (hI : I64s vs) (hrn : rn ≤ 1000000) : Calls Tryz.prog 23 #[.int .i64 58, .slice ra rn rc, .slice va 1 vc] w (RdEnd w (joinR rest ((fun vs => .ok [Ce.flagI ((fun x => decide (0 < x)) (vs.getD 0 0))]) vs))) := by
  have hMn := Lib.hid (rmov_no 58 va 1 vc w (by decide))
  have hDn := Lib.hid (rdvs_no 58 va 1 vc w (by decide))
  have hRR := Lib.hid hR
  have hrb := hR.bd
  have hn := h.nums
  have hbd := h.bd
  obtain ⟨b, o, rfl, g0⟩ := h.int (i := 0) (by omega)
  have h0 := hI.at (i := 0)
  have hA := Lib.hid (ralo_58 (vs.getD 0 0) w h0)
  show Calls _ _ _ _ (RdEnd w (.ok (rest, [Ce.flagI (decide (0 < (vs.getD 0 0)))])))
  generalize vs.getD 0 0 = x0 at *
  simp only [Nat.add_zero] at g0
  clear h hI hR h0 hn
  generalize Ce.flagI (decide (0 < x0)) = v at *
  go_enter Tryz.func23, Tryz.ntmps23
  go_wp2_with (first | (go_at_call 37; (with_reducible refine hMn.out.mono ?_); rintro e w1 ⟨rfl, rfl⟩) | (go_at_call 38; (with_reducible refine hDn.out.mono ?_); rintro e w1 ⟨rfl, rfl⟩) | (go_at_call 44; (with_reducible refine hA.out.mono ?_); rintro e w2 ⟨rfl, hb2⟩))
  go_ret3
  obtain ⟨f1, f2⟩ := Sk.fresh w2 [v] (by simp)
  exact ⟨_, _, _, _, _, _, rfl, (hRR.out.below hb2).below f2, f1, hb2.trans (f2.mono hb2.size)⟩
end Go.Proofs.YtobijdfnafnodaaGreatDoor
