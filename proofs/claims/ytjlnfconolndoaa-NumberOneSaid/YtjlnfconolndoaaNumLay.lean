/- The contract of the closure that lays a figure into the array. -/
import Derived.Test.YtjlnfconolndoaaNumCut
import Derived.Laws.Rows
import Derived.Laws.Tables
import Derived.Deep.DeepCutAuto
import Derived.Deep.CutBlock
namespace Go.Proofs.Ytjlnfconolndoaa
open Go.ChangeShapes Go.WideShapes Go.ChangeAt Go.RowKit
set_option linter.unusedVariables false

def u8s (xs : List Int) : List Value := xs.map (Value.int .u8)
/-- a number in a cell of its own; an array of bytes in a block of its own -/
def At (w : World) (A : Nat) (k : Int) : Prop := w.heap[A]? = some (.cells #[.int .i64 k] 3 (0, 0))
def Arr (w : World) (M : Nat) (xs : List Int) : Prop := w.heap[M]? = some (.cells (u8s xs).toArray 32 (0, 0)) ∧ xs.length = 65

theorem Arr.at {w : World} {M : Nat} {xs : List Int} (h : Arr w M xs) {k : Nat} (hk : k < 65) : w.cell? ⟨M, k, none⟩ = some (.int .u8 (xs.getD k 0)) := by
  have h2 := h.2
  have hk2 : k < xs.length := by omega
  rw [cell_of_row w M k _ _ _ h.1]
  simp [u8s, List.getD, hk2]
theorem Arr.free {w : World} {M : Nat} {xs : List Int} (h : Arr w M xs) (k : Nat) : w.frozen? ⟨M, k, none⟩ = false := frozen_of_row w M k _ _ h.1
theorem Arr.put {w : World} {M : Nat} {xs : List Int} (h : Arr w M xs) (k : Nat) (c : Int) : Arr (w.setCell ⟨M, k, none⟩ (.int .u8 c)) M (xs.set k c) := by
  refine ⟨?_, by simp [h.2]⟩
  rw [heap_setCell_same w M k _ _ _ h.1]
  simp [u8s, List.map_set]
theorem Arr.other {w : World} {M : Nat} {xs : List Int} (h : Arr w M xs) {p : Addr} (hp : M ≠ p.block) (v : Value) : Arr (w.setCell p v) M xs := by
  refine ⟨?_, h.2⟩
  rw [heap_setCell_other w p M v hp]
  exact h.1
theorem At.other {w : World} {A : Nat} {k : Int} (h : At w A k) {p : Addr} (hp : A ≠ p.block) (v : Value) : At (w.setCell p v) A k := by
  unfold At
  rw [heap_setCell_other w p A v hp]
  exact h

theorem lay_any (c : Int) (k : Nat) (xs : List Int) (A M B : Nat) (w : World) (hA : B ≤ A) (hM : B ≤ M) (hne : A ≠ M) (h1 : At w A ((k : Int) + 1)) (h2 : Arr w M xs) (hk : k < 65) (hc : 0 ≤ c ∧ c ≤ 255) :
    Calls Try.prog 14 #[.int .u8 c, .pointer (some ⟨A, 0, none⟩), .pointer (some ⟨M, 0, none⟩)] w fun e w' => e = .returned (.tuple #[]) ∧ At w' A k ∧ Arr w' M (xs.set k c) ∧ Below B w w' := by
  have c1 := cell_of_one h1
  have c2 := free_of_one h1
  have c3 := h2.at hk
  have c4 := h2.free k
  have h1' := Lib.hid h1
  have h2' := Lib.hid h2
  clear h1 h2
  go_enter Try.func14, Try.ntmps14
  go_wp2
  go_end0
  exact ⟨rfl, At.other (by unfold At; exact one_setCell h1'.out) hne _, (h2'.out.other (p := ⟨A, 0, none⟩) (Ne.symm hne) _).put k c, ((Below.refl _ _).setCell hA _).setCell hM _⟩

end Go.Proofs.Ytjlnfconolndoaa
