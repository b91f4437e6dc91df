/- What the document's does makes of each word's values (4 of 4). Written by wip/gen/aluref.py. -/
import Derived.Test.YtobijdfnafnodaaGreatDoorAluRdo0
import Derived.StillTailTactics
namespace Go.Proofs.YtobijdfnafnodaaGreatDoor
set_option maxRecDepth 100000
open Go.ChangeShapes Go.WideShapes Go.ChangeAt Go.RowKit
open Sk (Sl ints Own)
set_option linter.unusedVariables false

theorem rdoes_60 (ra : Option Addr) (rn rc : Nat) (rest : List Int) (va : Option Addr) (vc : Nat) (vs : List Int) (w : World) (hR : Sl w ra rn rc (ints rest)) (h : Sl w va 0 vc (ints vs)) (hI : I64s vs) (hrn : rn ≤ 1000000) : Calls Tryz.prog 23 #[.int .i64 60, .slice ra rn rc, .slice va 0 vc] w (RdEnd w (joinR rest ((fun vs => .ok [Ce.flagI ((fun _ => true) vs)]) vs))) := by
  have hMn := Lib.hid (rmov_no 60 va 0 vc w (by decide))
  have hDn := Lib.hid (rdvs_no 60 va 0 vc w (by decide))
  have hRR := Lib.hid hR
  have hrb := hR.bd
  clear h hI hR
  show Calls _ _ _ _ (RdEnd w (.ok (rest, [-1])))
  go_enter Tryz.func23, Tryz.ntmps23
  go_wp2_with (first | (go_at_call 37; (with_reducible refine hMn.out.mono ?_); rintro e w1 ⟨rfl, rfl⟩) | (go_at_call 38; (with_reducible refine hDn.out.mono ?_); rintro e w1 ⟨rfl, rfl⟩))
  go_ret3
  exact ⟨_, _, _, _, _, _, rfl, hRR.out.below (Sk.fresh w [-1] (by simp)).2, (Sk.fresh w [-1] (by simp)).1, (Sk.fresh w [-1] (by simp)).2⟩
theorem rdoes_61 (ra : Option Addr) (rn rc : Nat) (rest : List Int) (va : Option Addr) (vc : Nat) (vs : List Int) (w : World) (hR : Sl w ra rn rc (ints rest)) (h : Sl w va 0 vc (ints vs)) (hI : I64s vs) (hrn : rn ≤ 1000000) : Calls Tryz.prog 23 #[.int .i64 61, .slice ra rn rc, .slice va 0 vc] w (RdEnd w (joinR rest ((fun vs => .ok [Ce.flagI ((fun _ => false) vs)]) vs))) := by
  have hMn := Lib.hid (rmov_no 61 va 0 vc w (by decide))
  have hDn := Lib.hid (rdvs_no 61 va 0 vc w (by decide))
  have hRR := Lib.hid hR
  have hrb := hR.bd
  clear h hI hR
  show Calls _ _ _ _ (RdEnd w (.ok (rest, [0])))
  go_enter Tryz.func23, Tryz.ntmps23
  go_wp2_with (first | (go_at_call 37; (with_reducible refine hMn.out.mono ?_); rintro e w1 ⟨rfl, rfl⟩) | (go_at_call 38; (with_reducible refine hDn.out.mono ?_); rintro e w1 ⟨rfl, rfl⟩))
  go_ret3
  exact ⟨_, _, _, _, _, _, rfl, hRR.out.below (Sk.fresh w [0] (by simp)).2, (Sk.fresh w [0] (by simp)).1, (Sk.fresh w [0] (by simp)).2⟩
theorem rdoes_62 (ra : Option Addr) (rn rc : Nat) (rest : List Int) (va : Option Addr) (vc : Nat) (vs : List Int) (w : World) (hR : Sl w ra rn rc (ints rest)) (h : Sl w va 1 vc (ints vs)) (hI : I64s vs) (hrn : rn ≤ 1000000) : Calls Tryz.prog 23 #[.int .i64 62, .slice ra rn rc, .slice va 1 vc] w (RdEnd w (joinR rest ((fun vs => lst ((fun x => .ok (wrap64 (x * 8))) (vs.getD 0 0))) vs))) := by
  have hMn := Lib.hid (rmov_no 62 va 1 vc w (by decide))
  have hDn := Lib.hid (rdvs_no 62 va 1 vc w (by decide))
  have hRR := Lib.hid hR
  have hrb := hR.bd
  have hn := h.nums
  have hbd := h.bd
  obtain ⟨b, o, rfl, g0⟩ := h.int (i := 0) (by omega)
  have h0 := hI.at (i := 0)
  have hA := Lib.hid (ralo_62 (vs.getD 0 0) w h0)
  show Calls _ _ _ _ (RdEnd w (.ok (rest, [wrap64 ((vs.getD 0 0) * 8)])))
  generalize vs.getD 0 0 = x0 at *
  simp only [Nat.add_zero] at g0
  clear h hI hR h0 hn
  generalize wrap64 (x0 * 8) = v at *
  go_enter Tryz.func23, Tryz.ntmps23
  go_wp2_with (first | (go_at_call 37; (with_reducible refine hMn.out.mono ?_); rintro e w1 ⟨rfl, rfl⟩) | (go_at_call 38; (with_reducible refine hDn.out.mono ?_); rintro e w1 ⟨rfl, rfl⟩) | (go_at_call 44; (with_reducible refine hA.out.mono ?_); rintro e w2 ⟨rfl, hb2⟩))
  go_ret3
  obtain ⟨f1, f2⟩ := Sk.fresh w2 [v] (by simp)
  exact ⟨_, _, _, _, _, _, rfl, (hRR.out.below hb2).below f2, f1, hb2.trans (f2.mono hb2.size)⟩
theorem rdoes_63 (ra : Option Addr) (rn rc : Nat) (rest : List Int) (va : Option Addr) (vc : Nat) (vs : List Int) (w : World) (hR : Sl w ra rn rc (ints rest)) (h : Sl w va 1 vc (ints vs)) (hI : I64s vs) (hrn : rn ≤ 1000000) : Calls Tryz.prog 23 #[.int .i64 63, .slice ra rn rc, .slice va 1 vc] w (RdEnd w (joinR rest ((fun vs => lst ((fun x => .ok (wrap64 (x + 8))) (vs.getD 0 0))) vs))) := by
  have hMn := Lib.hid (rmov_no 63 va 1 vc w (by decide))
  have hDn := Lib.hid (rdvs_no 63 va 1 vc w (by decide))
  have hRR := Lib.hid hR
  have hrb := hR.bd
  have hn := h.nums
  have hbd := h.bd
  obtain ⟨b, o, rfl, g0⟩ := h.int (i := 0) (by omega)
  have h0 := hI.at (i := 0)
  have hA := Lib.hid (ralo_63 (vs.getD 0 0) w h0)
  show Calls _ _ _ _ (RdEnd w (.ok (rest, [wrap64 ((vs.getD 0 0) + 8)])))
  generalize vs.getD 0 0 = x0 at *
  simp only [Nat.add_zero] at g0
  clear h hI hR h0 hn
  generalize wrap64 (x0 + 8) = v at *
  go_enter Tryz.func23, Tryz.ntmps23
  go_wp2_with (first | (go_at_call 37; (with_reducible refine hMn.out.mono ?_); rintro e w1 ⟨rfl, rfl⟩) | (go_at_call 38; (with_reducible refine hDn.out.mono ?_); rintro e w1 ⟨rfl, rfl⟩) | (go_at_call 44; (with_reducible refine hA.out.mono ?_); rintro e w2 ⟨rfl, hb2⟩))
  go_ret3
  obtain ⟨f1, f2⟩ := Sk.fresh w2 [v] (by simp)
  exact ⟨_, _, _, _, _, _, rfl, (hRR.out.below hb2).below f2, f1, hb2.trans (f2.mono hb2.size)⟩
theorem rdoes_64 (ra : Option Addr) (rn rc : Nat) (rest : List Int) (va : Option Addr) (vc : Nat) (vs : List Int) (w : World) (hR : Sl w ra rn rc (ints rest)) (h : Sl w va 2 vc (ints vs)) (hI : I64s vs) (hrn : rn ≤ 1000000) : Calls Tryz.prog 23 #[.int .i64 64, .slice ra rn rc, .slice va 2 vc] w (RdEnd w (joinR rest ((fun vs => .ok [(Fl.twI 43) (vs.getD 0 0) (vs.getD 1 0)]) vs))) :=
  rdoes_pair 64 (Fl.twI 43 (vs.getD 0 0) (vs.getD 1 0)) ra rn rc rest va vc vs w (by decide) (by decide) (by decide) hR h (fun V => rpai_64 _ _ V hI.at hI.at)
theorem rdoes_65 (ra : Option Addr) (rn rc : Nat) (rest : List Int) (va : Option Addr) (vc : Nat) (vs : List Int) (w : World) (hR : Sl w ra rn rc (ints rest)) (h : Sl w va 2 vc (ints vs)) (hI : I64s vs) (hrn : rn ≤ 1000000) : Calls Tryz.prog 23 #[.int .i64 65, .slice ra rn rc, .slice va 2 vc] w (RdEnd w (joinR rest ((fun vs => .ok [(Fl.twI 45) (vs.getD 0 0) (vs.getD 1 0)]) vs))) :=
  rdoes_pair 65 (Fl.twI 45 (vs.getD 0 0) (vs.getD 1 0)) ra rn rc rest va vc vs w (by decide) (by decide) (by decide) hR h (fun V => rpai_65 _ _ V hI.at hI.at)
theorem rdoes_66 (ra : Option Addr) (rn rc : Nat) (rest : List Int) (va : Option Addr) (vc : Nat) (vs : List Int) (w : World) (hR : Sl w ra rn rc (ints rest)) (h : Sl w va 2 vc (ints vs)) (hI : I64s vs) (hrn : rn ≤ 1000000) : Calls Tryz.prog 23 #[.int .i64 66, .slice ra rn rc, .slice va 2 vc] w (RdEnd w (joinR rest ((fun vs => .ok [(Fl.twI 42) (vs.getD 0 0) (vs.getD 1 0)]) vs))) :=
  rdoes_pair 66 (Fl.twI 42 (vs.getD 0 0) (vs.getD 1 0)) ra rn rc rest va vc vs w (by decide) (by decide) (by decide) hR h (fun V => rpai_66 _ _ V hI.at hI.at)
theorem rdoes_67 (ra : Option Addr) (rn rc : Nat) (rest : List Int) (va : Option Addr) (vc : Nat) (vs : List Int) (w : World) (hR : Sl w ra rn rc (ints rest)) (h : Sl w va 2 vc (ints vs)) (hI : I64s vs) (hrn : rn ≤ 1000000) : Calls Tryz.prog 23 #[.int .i64 67, .slice ra rn rc, .slice va 2 vc] w (RdEnd w (joinR rest ((fun vs => .ok [(Fl.twI 47) (vs.getD 0 0) (vs.getD 1 0)]) vs))) :=
  rdoes_pair 67 (Fl.twI 47 (vs.getD 0 0) (vs.getD 1 0)) ra rn rc rest va vc vs w (by decide) (by decide) (by decide) hR h (fun V => rpai_67 _ _ V hI.at hI.at)
theorem rdoes_68 (ra : Option Addr) (rn rc : Nat) (rest : List Int) (va : Option Addr) (vc : Nat) (vs : List Int) (w : World) (hR : Sl w ra rn rc (ints rest)) (h : Sl w va 2 vc (ints vs)) (hI : I64s vs) (hrn : rn ≤ 1000000) : Calls Tryz.prog 23 #[.int .i64 68, .slice ra rn rc, .slice va 2 vc] w (RdEnd w (joinR rest ((fun vs => .ok [(Fl.twI 109) (vs.getD 0 0) (vs.getD 1 0)]) vs))) :=
  rdoes_pair 68 (Fl.twI 109 (vs.getD 0 0) (vs.getD 1 0)) ra rn rc rest va vc vs w (by decide) (by decide) (by decide) hR h (fun V => rpai_68 _ _ V hI.at hI.at)
theorem rdoes_69 (ra : Option Addr) (rn rc : Nat) (rest : List Int) (va : Option Addr) (vc : Nat) (vs : List Int) (w : World) (hR : Sl w ra rn rc (ints rest)) (h : Sl w va 2 vc (ints vs)) (hI : I64s vs) (hrn : rn ≤ 1000000) : Calls Tryz.prog 23 #[.int .i64 69, .slice ra rn rc, .slice va 2 vc] w (RdEnd w (joinR rest ((fun vs => .ok [(Fl.twI 77) (vs.getD 0 0) (vs.getD 1 0)]) vs))) :=
  rdoes_pair 69 (Fl.twI 77 (vs.getD 0 0) (vs.getD 1 0)) ra rn rc rest va vc vs w (by decide) (by decide) (by decide) hR h (fun V => rpai_69 _ _ V hI.at hI.at)
theorem rdoes_70 (ra : Option Addr) (rn rc : Nat) (rest : List Int) (va : Option Addr) (vc : Nat) (vs : List Int) (w : World) (hR : Sl w ra rn rc (ints rest)) (h : Sl w va 1 vc (ints vs)) (hI : I64s vs) (hrn : rn ≤ 1000000) : Calls Tryz.prog 23 #[.int .i64 70, .slice ra rn rc, .slice va 1 vc] w (RdEnd w (joinR rest ((fun vs => lst ((fun x => .ok (Fl.onI 110 x)) (vs.getD 0 0))) vs))) := by
  have hMn := Lib.hid (rmov_no 70 va 1 vc w (by decide))
  have hDn := Lib.hid (rdvs_no 70 va 1 vc w (by decide))
  have hRR := Lib.hid hR
  have hrb := hR.bd
  have hn := h.nums
  have hbd := h.bd
  obtain ⟨b, o, rfl, g0⟩ := h.int (i := 0) (by omega)
  have h0 := hI.at (i := 0)
  have hA := Lib.hid (ralo_70 (vs.getD 0 0) w h0)
  show Calls _ _ _ _ (RdEnd w (.ok (rest, [Fl.onI 110 (vs.getD 0 0)])))
  generalize vs.getD 0 0 = x0 at *
  simp only [Nat.add_zero] at g0
  clear h hI hR h0 hn
  generalize Fl.onI 110 x0 = v at *
  go_enter Tryz.func23, Tryz.ntmps23
  go_wp2_with (first | (go_at_call 37; (with_reducible refine hMn.out.mono ?_); rintro e w1 ⟨rfl, rfl⟩) | (go_at_call 38; (with_reducible refine hDn.out.mono ?_); rintro e w1 ⟨rfl, rfl⟩) | (go_at_call 44; (with_reducible refine hA.out.mono ?_); rintro e w2 ⟨rfl, hb2⟩))
  go_ret3
  obtain ⟨f1, f2⟩ := Sk.fresh w2 [v] (by simp)
  exact ⟨_, _, _, _, _, _, rfl, (hRR.out.below hb2).below f2, f1, hb2.trans (f2.mono hb2.size)⟩
theorem rdoes_71 (ra : Option Addr) (rn rc : Nat) (rest : List Int) (va : Option Addr) (vc : Nat) (vs : List Int) (w : World) (hR : Sl w ra rn rc (ints rest)) (h : Sl w va 1 vc (ints vs)) (hI : I64s vs) (hrn : rn ≤ 1000000) : Calls Tryz.prog 23 #[.int .i64 71, .slice ra rn rc, .slice va 1 vc] w (RdEnd w (joinR rest ((fun vs => lst ((fun x => .ok (Fl.onI 97 x)) (vs.getD 0 0))) vs))) := by
  have hMn := Lib.hid (rmov_no 71 va 1 vc w (by decide))
  have hDn := Lib.hid (rdvs_no 71 va 1 vc w (by decide))
  have hRR := Lib.hid hR
  have hrb := hR.bd
  have hn := h.nums
  have hbd := h.bd
  obtain ⟨b, o, rfl, g0⟩ := h.int (i := 0) (by omega)
  have h0 := hI.at (i := 0)
  have hA := Lib.hid (ralo_71 (vs.getD 0 0) w h0)
  show Calls _ _ _ _ (RdEnd w (.ok (rest, [Fl.onI 97 (vs.getD 0 0)])))
  generalize vs.getD 0 0 = x0 at *
  simp only [Nat.add_zero] at g0
  clear h hI hR h0 hn
  generalize Fl.onI 97 x0 = v at *
  go_enter Tryz.func23, Tryz.ntmps23
  go_wp2_with (first | (go_at_call 37; (with_reducible refine hMn.out.mono ?_); rintro e w1 ⟨rfl, rfl⟩) | (go_at_call 38; (with_reducible refine hDn.out.mono ?_); rintro e w1 ⟨rfl, rfl⟩) | (go_at_call 44; (with_reducible refine hA.out.mono ?_); rintro e w2 ⟨rfl, hb2⟩))
  go_ret3
  obtain ⟨f1, f2⟩ := Sk.fresh w2 [v] (by simp)
  exact ⟨_, _, _, _, _, _, rfl, (hRR.out.below hb2).below f2, f1, hb2.trans (f2.mono hb2.size)⟩
theorem rdoes_72 (ra : Option Addr) (rn rc : Nat) (rest : List Int) (va : Option Addr) (vc : Nat) (vs : List Int) (w : World) (hR : Sl w ra rn rc (ints rest)) (h : Sl w va 1 vc (ints vs)) (hI : I64s vs) (hrn : rn ≤ 1000000) : Calls Tryz.prog 23 #[.int .i64 72, .slice ra rn rc, .slice va 1 vc] w (RdEnd w (joinR rest ((fun vs => lst ((fun x => .ok (Fl.onI 115 x)) (vs.getD 0 0))) vs))) := by
  have hMn := Lib.hid (rmov_no 72 va 1 vc w (by decide))
  have hDn := Lib.hid (rdvs_no 72 va 1 vc w (by decide))
  have hRR := Lib.hid hR
  have hrb := hR.bd
  have hn := h.nums
  have hbd := h.bd
  obtain ⟨b, o, rfl, g0⟩ := h.int (i := 0) (by omega)
  have h0 := hI.at (i := 0)
  have hA := Lib.hid (ralo_72 (vs.getD 0 0) w h0)
  show Calls _ _ _ _ (RdEnd w (.ok (rest, [Fl.onI 115 (vs.getD 0 0)])))
  generalize vs.getD 0 0 = x0 at *
  simp only [Nat.add_zero] at g0
  clear h hI hR h0 hn
  generalize Fl.onI 115 x0 = v at *
  go_enter Tryz.func23, Tryz.ntmps23
  go_wp2_with (first | (go_at_call 37; (with_reducible refine hMn.out.mono ?_); rintro e w1 ⟨rfl, rfl⟩) | (go_at_call 38; (with_reducible refine hDn.out.mono ?_); rintro e w1 ⟨rfl, rfl⟩) | (go_at_call 44; (with_reducible refine hA.out.mono ?_); rintro e w2 ⟨rfl, hb2⟩))
  go_ret3
  obtain ⟨f1, f2⟩ := Sk.fresh w2 [v] (by simp)
  exact ⟨_, _, _, _, _, _, rfl, (hRR.out.below hb2).below f2, f1, hb2.trans (f2.mono hb2.size)⟩
theorem rdoes_73 (ra : Option Addr) (rn rc : Nat) (rest : List Int) (va : Option Addr) (vc : Nat) (vs : List Int) (w : World) (hR : Sl w ra rn rc (ints rest)) (h : Sl w va 1 vc (ints vs)) (hI : I64s vs) (hrn : rn ≤ 1000000) : Calls Tryz.prog 23 #[.int .i64 73, .slice ra rn rc, .slice va 1 vc] w (RdEnd w (joinR rest ((fun vs => lst ((fun x => .ok (Fl.onI 102 x)) (vs.getD 0 0))) vs))) := by
  have hMn := Lib.hid (rmov_no 73 va 1 vc w (by decide))
  have hDn := Lib.hid (rdvs_no 73 va 1 vc w (by decide))
  have hRR := Lib.hid hR
  have hrb := hR.bd
  have hn := h.nums
  have hbd := h.bd
  obtain ⟨b, o, rfl, g0⟩ := h.int (i := 0) (by omega)
  have h0 := hI.at (i := 0)
  have hA := Lib.hid (ralo_73 (vs.getD 0 0) w h0)
  show Calls _ _ _ _ (RdEnd w (.ok (rest, [Fl.onI 102 (vs.getD 0 0)])))
  generalize vs.getD 0 0 = x0 at *
  simp only [Nat.add_zero] at g0
  clear h hI hR h0 hn
  generalize Fl.onI 102 x0 = v at *
  go_enter Tryz.func23, Tryz.ntmps23
  go_wp2_with (first | (go_at_call 37; (with_reducible refine hMn.out.mono ?_); rintro e w1 ⟨rfl, rfl⟩) | (go_at_call 38; (with_reducible refine hDn.out.mono ?_); rintro e w1 ⟨rfl, rfl⟩) | (go_at_call 44; (with_reducible refine hA.out.mono ?_); rintro e w2 ⟨rfl, hb2⟩))
  go_ret3
  obtain ⟨f1, f2⟩ := Sk.fresh w2 [v] (by simp)
  exact ⟨_, _, _, _, _, _, rfl, (hRR.out.below hb2).below f2, f1, hb2.trans (f2.mono hb2.size)⟩
theorem rdoes_74 (ra : Option Addr) (rn rc : Nat) (rest : List Int) (va : Option Addr) (vc : Nat) (vs : List Int) (w : World) (hR : Sl w ra rn rc (ints rest)) (h : Sl w va 2 vc (ints vs)) (hI : I64s vs) (hrn : rn ≤ 1000000) : Calls Tryz.prog 23 #[.int .i64 74, .slice ra rn rc, .slice va 2 vc] w (RdEnd w (joinR rest ((fun vs => .ok [Ce.flagI ((fun x y => Fl.ltB (Fl.cb x) (Fl.cb y)) (vs.getD 0 0) (vs.getD 1 0))]) vs))) :=
  rdoes_pair 74 (Ce.flagI (Fl.ltB (Fl.cb (vs.getD 0 0)) (Fl.cb (vs.getD 1 0)))) ra rn rc rest va vc vs w (by decide) (by decide) (by decide) hR h (fun V => rpai_74 _ _ V hI.at hI.at)
theorem rdoes_75 (ra : Option Addr) (rn rc : Nat) (rest : List Int) (va : Option Addr) (vc : Nat) (vs : List Int) (w : World) (hR : Sl w ra rn rc (ints rest)) (h : Sl w va 2 vc (ints vs)) (hI : I64s vs) (hrn : rn ≤ 1000000) : Calls Tryz.prog 23 #[.int .i64 75, .slice ra rn rc, .slice va 2 vc] w (RdEnd w (joinR rest ((fun vs => .ok [Ce.flagI ((fun x y => Fl.eqB (Fl.cb x) (Fl.cb y)) (vs.getD 0 0) (vs.getD 1 0))]) vs))) :=
  rdoes_pair 75 (Ce.flagI (Fl.eqB (Fl.cb (vs.getD 0 0)) (Fl.cb (vs.getD 1 0)))) ra rn rc rest va vc vs w (by decide) (by decide) (by decide) hR h (fun V => rpai_75 _ _ V hI.at hI.at)
theorem rdoes_76 (ra : Option Addr) (rn rc : Nat) (rest : List Int) (va : Option Addr) (vc : Nat) (vs : List Int) (w : World) (hR : Sl w ra rn rc (ints rest)) (h : Sl w va 1 vc (ints vs)) (hI : I64s vs) (hrn : rn ≤ 1000000) : Calls Tryz.prog 23 #[.int .i64 76, .slice ra rn rc, .slice va 1 vc] w (RdEnd w (joinR rest ((fun vs => lst ((fun x => .ok (Fl.puI x)) (vs.getD 0 0))) vs))) := by
  have hMn := Lib.hid (rmov_no 76 va 1 vc w (by decide))
  have hDn := Lib.hid (rdvs_no 76 va 1 vc w (by decide))
  have hRR := Lib.hid hR
  have hrb := hR.bd
  have hn := h.nums
  have hbd := h.bd
  obtain ⟨b, o, rfl, g0⟩ := h.int (i := 0) (by omega)
  have h0 := hI.at (i := 0)
  have hA := Lib.hid (ralo_76 (vs.getD 0 0) w h0)
  show Calls _ _ _ _ (RdEnd w (.ok (rest, [Fl.puI (vs.getD 0 0)])))
  generalize vs.getD 0 0 = x0 at *
  simp only [Nat.add_zero] at g0
  clear h hI hR h0 hn
  generalize Fl.puI x0 = v at *
  go_enter Tryz.func23, Tryz.ntmps23
  go_wp2_with (first | (go_at_call 37; (with_reducible refine hMn.out.mono ?_); rintro e w1 ⟨rfl, rfl⟩) | (go_at_call 38; (with_reducible refine hDn.out.mono ?_); rintro e w1 ⟨rfl, rfl⟩) | (go_at_call 44; (with_reducible refine hA.out.mono ?_); rintro e w2 ⟨rfl, hb2⟩))
  go_ret3
  obtain ⟨f1, f2⟩ := Sk.fresh w2 [v] (by simp)
  exact ⟨_, _, _, _, _, _, rfl, (hRR.out.below hb2).below f2, f1, hb2.trans (f2.mono hb2.size)⟩
theorem rdoes_77 (ra : Option Addr) (rn rc : Nat) (rest : List Int) (va : Option Addr) (vc : Nat) (vs : List Int) (w : World) (hR : Sl w ra rn rc (ints rest)) (h : Sl w va 1 vc (ints vs)) (hI : I64s vs) (hrn : rn ≤ 1000000) : Calls Tryz.prog 23 #[.int .i64 77, .slice ra rn rc, .slice va 1 vc] w (RdEnd w (joinR rest ((fun vs => lst (takeE (vs.getD 0 0))) vs))) := by
  have hMn := Lib.hid (rmov_no 77 va 1 vc w (by decide))
  have hDn := Lib.hid (rdvs_no 77 va 1 vc w (by decide))
  have hRR := Lib.hid hR
  have hrb := hR.bd
  have hn := h.nums
  have hbd := h.bd
  obtain ⟨b, o, rfl, g0⟩ := h.int (i := 0) (by omega)
  have h0 := hI.at (i := 0)
  have hT := Lib.hid (Fl.rtake_any (vs.getD 0 0) w)
  show Calls _ _ _ _ (RdEnd w (joinR rest (lst (takeE (vs.getD 0 0)))))
  generalize vs.getD 0 0 = x0 at *
  simp only [Nat.add_zero] at g0
  clear h hI hR h0 hn
  unfold takeE
  cases ht : Fl.tkB (Fl.cb x0)
  · rw [ht] at hT
    clear ht
    show Calls _ _ _ _ (RdEnd w (.error (-11)))
    go_enter Tryz.func23, Tryz.ntmps23
    go_wp2_with (first | (go_at_call 37; (with_reducible refine hMn.out.mono ?_); rintro e w1 ⟨rfl, rfl⟩) | (go_at_call 38; (with_reducible refine hDn.out.mono ?_); rintro e w1 ⟨rfl, rfl⟩) | (go_at_call 43; (with_reducible refine hT.out.mono ?_); rintro e w2 ⟨rfl, rfl⟩))
    go_ret3
    exact ⟨by decide, _, _, _, _, _, _, rfl, Below.refl _ _⟩
  · rw [ht] at hT
    clear ht
    show Calls _ _ _ _ (RdEnd w (.ok (rest, [Fl.tkI x0])))
    generalize Fl.tkI x0 = v at *
    go_enter Tryz.func23, Tryz.ntmps23
    go_wp2_with (first | (go_at_call 37; (with_reducible refine hMn.out.mono ?_); rintro e w1 ⟨rfl, rfl⟩) | (go_at_call 38; (with_reducible refine hDn.out.mono ?_); rintro e w1 ⟨rfl, rfl⟩) | (go_at_call 43; (with_reducible refine hT.out.mono ?_); rintro e w2 ⟨rfl, rfl⟩))
    go_ret3
    exact ⟨_, _, _, _, _, _, rfl, hRR.out.below (Sk.fresh w [v] (by simp)).2, (Sk.fresh w [v] (by simp)).1, (Sk.fresh w [v] (by simp)).2⟩
end Go.Proofs.YtobijdfnafnodaaGreatDoor
