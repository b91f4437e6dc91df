/- The document's Up. -/
import Derived.Test.YtkjokgjjpoocgaaDoorFewS
namespace Go.Proofs.YtkjokgjjpoocgaaDoor
set_option maxRecDepth 100000
open Go.ChangeShapes Go.WideShapes Go.ChangeAt Go.RowKit
open On (C64 C8)
set_option linter.unusedVariables false
set_option maxRecDepth 100000

/-- the least multiple of 8 that is not below x, going round -/
def up (x : Int) : Int := wrap64 (x + (-x) % 8)
theorem up_of {x : Int} (hx : C64 x) (h : x % 8 = 0) : up x = x := by unfold up wrap64; unfold C64 at hx; omega
theorem up_next {x : Int} (hx : C64 x) (h : ¬ x % 8 = 0) : up (wrap64 (x + 1)) = up x := by unfold up wrap64; unfold C64 at hx; omega
theorem up_less {x : Int} (hx : C64 x) (h : ¬ x % 8 = 0) : ((-(wrap64 (x + 1))) % 8).toNat < ((-x) % 8).toNat := by unfold wrap64; unfold C64 at hx; omega
theorem rem8 {x : Int} (h : x % 8 = 0) : x.tmod 8 = 0 := Int.tmod_eq_zero_of_dvd (by omega)
theorem rem8' {x : Int} (h : ¬ x % 8 = 0) : ¬ x.tmod 8 = 0 := fun h' => h (by have := Int.dvd_of_tmod_eq_zero h'; omega)
theorem rup_any (x : Int) (w : World) (hx : C64 x) :
    Calls Tryd.prog 20 #[.int .i64 x] w fun e w' => e = .returned (.int .i64 (up x)) ∧ w = w' := by
  have hi := Lib.hid hx
  clear hx
  go_enter Tryd.func20, Tryd.ntmps20
  go_wp2
  go_loop [0] (fun v => ∃ c : Int, v = .int .i64 c ∧ Hid (C64 c) ∧ Hid (up c = up x)) (fun v => ((-(intOf v)) % 8).toNat)
  case atStart => exact ⟨x, rfl, hi, Lib.hid rfl⟩
  case round =>
    obtain ⟨c, rfl, hc, he⟩ := hrel
    by_cases hz : c % 8 = 0
    · have e1 := rem8 hz
      have e2 := Lib.hid ((up_of hc.out hz).symm.trans he.out)
      clear hz
      go_wp2
      go_ret
      rw [e2.out]
      exact ⟨rfl, rfl⟩
    · have e1 := rem8' hz
      have e2 := Lib.hid ((up_next hc.out hz).trans he.out)
      have e3 := up_less hc.out hz
      clear hz
      go_wp2
      exact ⟨⟨_, rfl, Lib.hid (by unfold C64 wrap64; omega), e2⟩, e3⟩
end Go.Proofs.YtkjokgjjpoocgaaDoor
