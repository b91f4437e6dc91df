/- What the laws on all words and all lines want of lists. -/
import Derived.Test.YtcjdhajnaonpcaaSrcAwake
namespace Go.Proofs.Ytcjdhajnaonpcaa
open Go.ChangeShapes Go.WideShapes Go.RowKit
set_option linter.unusedVariables false

theorem line_step {xs : List Int} {k : Nat} {l c : Int} (h : plc (xs.take k) = (l, c)) (hk : k ≤ xs.length) (hf : fd xs 10 k < xs.length) : plc (xs.take (fd xs 10 k + 1)) = (l + 1, 1) := by
  have hge := fd_ge xs 10 k
  have hin := fun i => fd_in xs 10 _ k i rfl
  rw [plc_step hf, stp_yes (fd_at xs 10 _ k rfl hf)]
  obtain ⟨d, hd⟩ : ∃ d, fd xs 10 k = k + d := ⟨fd xs 10 k - k, by omega⟩
  rw [hd] at hf hin ⊢
  rw [plc_free d (by omega) (fun i h1 h2 => hin i h1 h2 (by omega)), h]
theorem line_last {xs : List Int} {k : Nat} (hk : k < xs.length) (hf : fd xs 10 k = xs.length) : ¬ xs.getD (xs.length - 1) 0 = 10 :=
  fd_in xs 10 _ k _ rfl (by omega) (by omega) (by omega)
theorem tok_some {xs : List Int} (hx : bytesOk xs) {b e : Nat} (h : b < e) (he : e ≤ xs.length) : ((strOfNums (cutN xs b e)).toList == []) = false := by
  have hl := cutN_len (Nat.le_of_lt h) he
  cases hc : cutN xs b e with
  | nil =>
    rw [hc] at hl
    simp at hl
    omega
  | cons x l => rw [str_list]; rfl
theorem tok_none (xs : List Int) (b : Nat) : ((strOfNums (cutN xs b b)).toList == []) = true := by
  have : cutN xs b b = [] := by simp [cutN]
  rw [this, str_list]
  rfl
end Go.Proofs.Ytcjdhajnaonpcaa
