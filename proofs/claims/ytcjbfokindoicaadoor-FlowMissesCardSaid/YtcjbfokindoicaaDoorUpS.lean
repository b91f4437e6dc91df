/- The document's Up. -/
import Derived.Test.YtcjbfokindoicaaDoorFewS
namespace Go.Proofs.YtcjbfokindoicaaDoor
set_option maxRecDepth 100000
open Go.ChangeShapes Go.WideShapes Go.ChangeAt Go.RowKit
open On (C64 C8)
set_option linter.unusedVariables false
set_option maxRecDepth 100000

/-- the least multiple of 8 that is not below x, going round -/
def up (x : Int) : Int := wrap64 (x + (-x) % 8)
theorem up_of {x : Int} (hx : C64 x) (h : x % 8 = 0) : up x = x := by unfold up wrap64; unfold C64 at hx; omega
theorem up_next {x : Int} (hx : C64 x) (h : ¬ x % 8 = 0) : up (wrap64 (x + 1)) = up x := by unfold up wrap64; unfold C64 at hx; omega
theorem up_less {x : Int} (hx : C64 x) (h : ¬ x % 8 = 0) : ((-(wrap64 (x + 1))) % 8).toNat < ((-x) % 8).toNat := by unfold wrap64; unfold C64 at hx; omega
theorem rem8 {x : Int} (h : x % 8 = 0) : x.tmod 8 = 0 := Int.tmod_eq_zero_of_dvd (by omega)
theorem rem8' {x : Int} (h : ¬ x % 8 = 0) : ¬ x.tmod 8 = 0 := fun h' => h (by have := Int.dvd_of_tmod_eq_zero h'; omega)
end Go.Proofs.YtcjbfokindoicaaDoor
