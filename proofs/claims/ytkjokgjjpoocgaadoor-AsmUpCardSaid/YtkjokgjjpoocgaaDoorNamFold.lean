/- Contracts of Fold, the program's and the document's. -/
import Derived.Test.YtkjokgjjpoocgaaDoorNamLeaf
namespace Go.Proofs.YtkjokgjjpoocgaaDoor.On
set_option maxRecDepth 100000
open Go.ChangeShapes Go.WideShapes Go.RowKit
set_option linter.unusedVariables false

/-- a byte in a slice of its own -/
theorem one_slice (c : Int) (W : World) : (Instr.buildSlice 22 1 #[(0, .int .u8 c)]).run Tryd.prog W = .ok (.slice (some ⟨W.heap.size, 0, none⟩) 1 1) (W.alloc (.cells #[.int .u8 c] 5)) := by kernel_rfl
theorem app_one {w : World} {B n cap : Nat} {ty : TypeId} {a : Option Addr} {xs : List Int} (c : Int) (h : Oz w B 5 1 a n cap (u8s xs)) (hn : n ≤ 1000) (hB : B ≤ w.heap.size) :
    ∃ a' cap' w2, (Builtin.append_ #[22, 22] ty #[.slice a n cap, .slice (some ⟨w.heap.size, 0, none⟩) 1 1]).run Tryd.prog (w.alloc (.cells #[.int .u8 c] 5)) = .ok (.slice a' (n + 1) cap') w2 ∧ Oz w2 B 5 1 a' (n + 1) cap' (u8s (xs ++ [c])) ∧ Below B w w2 := by
  obtain ⟨i, hi, hz0, hz1, hz2⟩ := info_parts u8info
  have hb0 : Below B w (w.alloc (.cells #[.int .u8 c] 5)) := (Below.refl _ _).alloc hB _
  have hS := (Oz.full w w.heap.size 5 1 (Nat.le_refl _) #[.int .u8 c] 1 (by decide) rfl).sz
  obtain ⟨a', cap', w2, h1, h2, h3⟩ := (h.alloc (.cells #[.int .u8 c] 5)).app (P := Tryd.prog) (ty := ty) Tryd.underlying22 hi hz0 hz1 hz2 rfl (by decide) hS (by intro u hu; simp at hu; subst hu; rfl) (by omega) (by omega) (by have := hb0.size; omega)
  refine ⟨a', cap', w2, h1, ?_, hb0.trans h3⟩
  rw [u8s_app]
  exact h2

end Go.Proofs.YtkjokgjjpoocgaaDoor.On
