/- What the document's does tells: its form. Written by wip/gen/aluref.py. -/
import Derived.Test.YtobijdfnafnodaaGreatDoorAluRmov
import Derived.Test.YtobijdfnafnodaaGreatDoorAluRdiv
import Derived.Deep.RegionHeld3
namespace Go.Proofs.YtobijdfnafnodaaGreatDoor
set_option maxRecDepth 100000
open Go.ChangeShapes Go.WideShapes Go.ChangeAt Go.RowKit
open Sk (Sl ints Own)
set_option linter.unusedVariables false

def RdEnd (w : World) : Except Int (List Int × List Int) → Ending → World → Prop
  | .error t, e, w' => t ≠ 0 ∧ ∃ a n c a2 n2 c2, e = .returned (.tuple #[.slice a n c, .slice a2 n2 c2, .int .i64 t]) ∧ Below w.heap.size w w'
  | .ok (b, l), e, w' => ∃ a n c a2 n2 c2, e = .returned (.tuple #[.slice a n c, .slice a2 n2 c2, .int .i64 0]) ∧ Sl w' a n c (ints b) ∧ Sl w' a2 n2 c2 (ints l) ∧ Below w.heap.size w w'
def joinR (rest : List Int) (r : Except Int (List Int)) : Except Int (List Int × List Int) := match r with
  | .error t => .error t
  | .ok l => .ok (rest, l)
theorem divG_err {ps : List Nat} {vs : List Int} {t : Int} (h : divG ps vs = .error t) : t ≠ 0 := by
  unfold divG at h
  split at h
  · injection h with h; omega
  · cases h
theorem scaG_err {ps : List Nat} {vs : List Int} {t : Int} (h : scaG ps vs = .error t) : t ≠ 0 := by
  unfold scaG at h
  split at h
  · injection h with h; omega
  · split at h
    · cases h
    · injection h with h; omega

theorem rdoes_pair (op v : Int) (ra : Option Addr) (rn rc : Nat) (rest : List Int) (va : Option Addr) (vc : Nat) (vs : List Int) (w : World)
    (hmo : ([13, 14, 15, 16, 17, 18, 19, 20, 21, 22, 23, 24] : List Int).all (fun k => op != k) = true) (hdo : op < 31 ∨ 35 < op) (hop : ([25, 26, 27, 59, 60, 61, 77] : List Int).all (fun k => op != k) = true)
    (hR : Sl w ra rn rc (ints rest)) (h : Sl w va 2 vc (ints vs)) (hP : ∀ V, Calls Tryz.prog 45 #[.int .i64 op, .int .i64 (vs.getD 0 0), .int .i64 (vs.getD 1 0)] V (Val v V)) :
    Calls Tryz.prog 23 #[.int .i64 op, .slice ra rn rc, .slice va 2 vc] w (RdEnd w (.ok (rest, [v]))) := by
  have hMn := Lib.hid (rmov_no op va 2 vc w hmo)
  have hDn := Lib.hid (rdvs_no op va 2 vc w hdo)
  simp only [List.all_cons, List.all_nil, Bool.and_true, Bool.and_eq_true, bne_iff_ne, ne_eq] at hop
  obtain ⟨h25, h26, h27, h59, h60, h61, h77⟩ := hop
  replace h25 : (op == 25) = false := by simpa using h25
  replace h26 : (op == 26) = false := by simpa using h26
  replace h27 : (op == 27) = false := by simpa using h27
  replace h59 : (op == 59) = false := by simpa using h59
  replace h60 : (op == 60) = false := by simpa using h60
  replace h61 : (op == 61) = false := by simpa using h61
  replace h77 : (op == 77) = false := by simpa using h77
  clear hmo hdo
  have hRR := Lib.hid hR
  have hrb := hR.bd
  have hn := h.nums
  have hbd := h.bd
  obtain ⟨b, o, rfl, g0⟩ := h.int (i := 0) (by omega)
  obtain ⟨b', o', e', g1⟩ := h.int (i := 1) (by omega)
  simp only [Option.some.injEq, Addr.mk.injEq, and_true] at e'
  obtain ⟨rfl, rfl⟩ := e'
  have hdr : Below w.heap.size w w.drew := (Below.refl _ _).drew
  have hPP := Lib.hid (hP w.drew)
  clear hP
  generalize vs.getD 0 0 = x0 at *
  generalize vs.getD 1 0 = x1 at *
  simp only [Nat.add_zero] at g0
  clear h hR hn
  have hcl := Lib.hid (fun (V : World) (hV : Below w.heap.size w V) => show V.cell? ⟨b, o, none⟩ = some (.int .i64 x0) ∧ V.cell? ⟨b, o + 1, none⟩ = some (.int .i64 x1) from ⟨(hV.cell (p := ⟨b, o, none⟩) (World.block_lt_of_cell? _ _ g0)).trans g0, (hV.cell (p := ⟨b, o + 1, none⟩) (World.block_lt_of_cell? _ _ g1)).trans g1⟩)
  go_enter Tryz.func23, Tryz.ntmps23
  go_wp2_with (first | (go_at_call 37; (with_reducible refine hMn.out.mono ?_); rintro e w1 ⟨rfl, rfl⟩) | (go_at_call 38; (with_reducible refine hDn.out.mono ?_); rintro e w1 ⟨rfl, rfl⟩))
  go_region_held3 (fun V => V.cell? ⟨b, o, none⟩ = some (.int .i64 x0) ∧ V.cell? ⟨b, o + 1, none⟩ = some (.int .i64 x1)) (first | exact hcl.out _ hdr | exact hcl.out _ (hdr.trans (hb3.mono hdr.size)) | exact hcl.out _ ((hdr.trans (hb3.mono hdr.size)).alloc ((hdr.trans (hb3.mono hdr.size)).size) _)) (first | (go_at_call 45; (with_reducible refine hPP.out.mono ?_); rintro e w3 ⟨rfl, hb3⟩))
  all_goals
    go_wp2
    go_ret3
    obtain ⟨f1, f2⟩ := Sk.fresh w3 [v] (by simp)
    exact ⟨_, _, _, _, _, _, rfl, ((hRR.out.below hdr).below hb3).below f2, f1, (hdr.trans (hb3.mono hdr.size)).trans (f2.mono (by have := hdr.size; have := hb3.size; omega))⟩
end Go.Proofs.YtobijdfnafnodaaGreatDoor
