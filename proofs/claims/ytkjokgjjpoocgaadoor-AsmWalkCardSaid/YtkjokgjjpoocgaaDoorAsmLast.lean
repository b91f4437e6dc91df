/- Names that the laws' texts want plain. -/
import Derived.Test.YtkjokgjjpoocgaaDoorAwakeP
namespace Go.Proofs.YtkjokgjjpoocgaaDoor
set_option maxRecDepth 100000
open Go.ChangeShapes Go.WideShapes Go.ChangeAt Go.RowKit
open On (St Hs StIs cst Fl one C64 C8 Sc slc spc Oz Sz)
set_option linter.unusedVariables false

abbrev Laid (w : World) : Prop := On.Laid w
theorem laid_of {W : World} (h : laidMetH Tryd.prog [("nostos/ops.words", Rows.laid_nostos_ops_words)] W) : Laid W := On.laid_of h
theorem laid_from {w w' : World} (h : Laid w) (hb : Below w.heap.size w w') : Laid w' := h.below hb (Nat.le_refl _)
theorem up_bd (x : Int) : C64 (up x) := by unfold C64 up wrap64; omega
theorem up_mod (x : Int) : up x % 8 = 0 := by unfold up wrap64; omega
theorem up_up (x : Int) : up (up x) = up x := up_of (up_bd x) (up_mod x)
theorem up_less8 {x : Int} (hx : C64 x) : 0 ≤ wrap64 (up x - x) ∧ wrap64 (up x - x) < 8 := by unfold up wrap64; unfold C64 at hx; omega
end Go.Proofs.YtkjokgjjpoocgaaDoor
