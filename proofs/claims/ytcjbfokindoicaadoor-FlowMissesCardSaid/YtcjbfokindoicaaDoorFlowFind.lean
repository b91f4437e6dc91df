/- The words of control flow, found by their names; a name told. -/
import Derived.Test.YtcjbfokindoicaaDoorFlowMath
import Derived.Test.YtcjbfokindoicaaDoorOpsMap
namespace Go.Proofs.YtcjbfokindoicaaDoor
set_option maxRecDepth 100000
open Go.ChangeShapes Go.WideShapes Go.ChangeAt Go.RowKit
open On (St Hs StIs cst Fl one C64 C8 Sc slc spc Sz)
set_option linter.unusedVariables false
set_option maxRecDepth 100000

/-- a name and its number -/
structure Nm (s : ByteArray) (k : Int) : Prop where
  of : ∃ xs : List Int, s = strOfNums xs ∧ On.bytesOk xs ∧ xs.length ≤ 1000 ∧ On.fnO (On.fold xs) = k
theorem find_nm {s : ByteArray} {k : Int} (h : Nm s k) (w : World) (hL : On.Laid w) : Calls Tryd.prog 16 #[.string s] w fun e w' => e = .returned (.int .i64 k) ∧ Below w.heap.size w w' := by
  obtain ⟨xs, rfl, h1, h2, h3⟩ := h.of
  have := On.find_any xs w hL h1 h2
  rw [h3] at this
  exact this
theorem nm_of (xs : List Int) {s : ByteArray} (k : Int) (hs : s = strOfNums xs) (h1 : On.bytesOk xs) (h2 : xs.length ≤ 1000) (h3 : On.fnO (On.fold xs) = k) : Nm s k := ⟨xs, hs, h1, h2, h3⟩
theorem nm_if : Nm ⟨#[73, 70]⟩ 98 := nm_of [73, 70] 98 (by kernel_rfl) (by intro z hz; simp at hz; omega) (by decide) (by decide +kernel)
theorem nm_else : Nm ⟨#[69, 76, 83, 69]⟩ 99 := nm_of [69, 76, 83, 69] 99 (by kernel_rfl) (by intro z hz; simp at hz; omega) (by decide) (by decide +kernel)
theorem nm_then : Nm ⟨#[84, 72, 69, 78]⟩ 100 := nm_of [84, 72, 69, 78] 100 (by kernel_rfl) (by intro z hz; simp at hz; omega) (by decide) (by decide +kernel)
theorem nm_begin : Nm ⟨#[66, 69, 71, 73, 78]⟩ 101 := nm_of [66, 69, 71, 73, 78] 101 (by kernel_rfl) (by intro z hz; simp at hz; omega) (by decide) (by decide +kernel)
theorem nm_again : Nm ⟨#[65, 71, 65, 73, 78]⟩ 102 := nm_of [65, 71, 65, 73, 78] 102 (by kernel_rfl) (by intro z hz; simp at hz; omega) (by decide) (by decide +kernel)
theorem nm_until : Nm ⟨#[85, 78, 84, 73, 76]⟩ 103 := nm_of [85, 78, 84, 73, 76] 103 (by kernel_rfl) (by intro z hz; simp at hz; omega) (by decide) (by decide +kernel)
theorem nm_while : Nm ⟨#[87, 72, 73, 76, 69]⟩ 104 := nm_of [87, 72, 73, 76, 69] 104 (by kernel_rfl) (by intro z hz; simp at hz; omega) (by decide) (by decide +kernel)
theorem nm_repeat : Nm ⟨#[82, 69, 80, 69, 65, 84]⟩ 105 := nm_of [82, 69, 80, 69, 65, 84] 105 (by kernel_rfl) (by intro z hz; simp at hz; omega) (by decide) (by decide +kernel)
theorem nm_do : Nm ⟨#[68, 79]⟩ 106 := nm_of [68, 79] 106 (by kernel_rfl) (by intro z hz; simp at hz; omega) (by decide) (by decide +kernel)
theorem nm_loop : Nm ⟨#[76, 79, 79, 80]⟩ 107 := nm_of [76, 79, 79, 80] 107 (by kernel_rfl) (by intro z hz; simp at hz; omega) (by decide) (by decide +kernel)
theorem nm_dup : Nm ⟨#[68, 85, 80]⟩ 13 := nm_of [68, 85, 80] 13 (by kernel_rfl) (by intro z hz; simp at hz; omega) (by decide) (by decide +kernel)
end Go.Proofs.YtcjbfokindoicaaDoor
