/- Contracts of the document's answer: the kinds, Name, Find. -/
import Derived.Test.YtkjokgjjpoocgaaDoorOpsMap
namespace Go.Proofs.YtkjokgjjpoocgaaDoor.On
set_option maxRecDepth 100000
open Go.ChangeShapes Go.WideShapes Go.RowKit
set_option linter.unusedVariables false

theorem rwid_any (op : Int) (w : World) (hb : -9223372036854775808 ≤ op ∧ op ≤ 9223372036854775807) :
    Calls Tryd.prog 32 #[.int .i64 op] w fun e w' => e = .returned (.bool (wid op)) ∧ w = w' := by
  have hc : op ≤ 1 ∨ (2 ≤ op ∧ op ≤ 8) ∨ op = 9 ∨ (10 ≤ op ∧ op ≤ 11) ∨ 12 ≤ op := by omega
  rcases hc with h1 | ⟨h1, h2⟩ | rfl | ⟨h1, h2⟩ | h1
  · have e : Hid (wid op = false) := Lib.hid (by simp [wid]; omega)
    go_enter Tryd.func32, Tryd.ntmps32
    go_wp2
    go_ret
    rw [e.out]
    exact ⟨rfl, rfl⟩
  · have e : Hid (wid op = true) := Lib.hid (by simp [wid]; omega)
    go_enter Tryd.func32, Tryd.ntmps32
    go_wp2
    go_ret
    rw [e.out]
    exact ⟨rfl, rfl⟩
  · have e : Hid (wid 9 = false) := Lib.hid (by decide)
    go_enter Tryd.func32, Tryd.ntmps32
    go_wp2
    go_ret
    rw [e.out]
    exact ⟨rfl, rfl⟩
  · have e : Hid (wid op = true) := Lib.hid (by simp [wid]; omega)
    have u8 : ¬ op ≤ 8 := by omega
    go_enter Tryd.func32, Tryd.ntmps32
    go_wp2
    go_ret
    rw [e.out]
    exact ⟨rfl, rfl⟩
  · have e : Hid (wid op = false) := Lib.hid (by simp [wid]; omega)
    have u8 : ¬ op ≤ 8 := by omega
    have u11 : ¬ op ≤ 11 := by omega
    go_enter Tryd.func32, Tryd.ntmps32
    go_wp2
    go_ret
    rw [e.out]
    exact ⟨rfl, rfl⟩

end Go.Proofs.YtkjokgjjpoocgaaDoor.On
