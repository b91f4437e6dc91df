/- The body-less functions of package math, as the model has them. -/
import Derived.Test.YtbgaoipgfmaijaaFloMath
import Derived.Test.YtbgaoipgfmaijaaRows
import Derived.WalkKit
import Derived.ProofKit
import Derived.OpenShut
import Derived.WalkLawsBesides
import Derived.WalkSpells
import Derived.Outline
import Derived.Lib.Hide
import Derived.Below
import Derived.Deep.QuietTactic
import Derived.BigQuiet
import Derived.IntWalk
import Derived.Laws.Externs
import Derived.Deep.RegionWith
namespace Go.Proofs.Ytbgaoipgfmaijaa
open Go.ChangeShapes Go.WideShapes Go.ChangeAt Go.RowKit
set_option linter.unusedVariables false

/-! ### the body-less functions of package math -/
theorem run_frombits (n : Int) (w : World) : (callFunc 27 #[.int .u64 n]).run Try.prog w = .ok (.value (.float .f64 n.toNat)) w := by
  rw [run_callFunc_extern Try.func27 (by kernel_rfl) (by kernel_rfl) (by kernel_rfl) (e := Extern.MathFloatBits.float64frombits) (by kernel_rfl)]
  rfl
theorem run_tobits (b : Nat) (w : World) : (callFunc 42 #[.float .f64 b]).run Try.prog w = .ok (.value (.int .u64 b)) w := by
  rw [run_callFunc_extern Try.func42 (by kernel_rfl) (by kernel_rfl) (by kernel_rfl) (e := Extern.MathFloatBits.float64bits) (by kernel_rfl)]
  rfl
/-- What the tape gives where a NaN's bits are open. -/
def nanOf (w : World) (q : Question) : Nat := q.cut (w.tape w.drawn q)
theorem nan_cut (t : Nat) : nanB ((t % 2) * 2 ^ 63 + 0x7ff0000000000000 + 1 + (t / 2) % (2 ^ 52 - 1)) = true ∧ (t % 2) * 2 ^ 63 + 0x7ff0000000000000 + 1 + (t / 2) % (2 ^ 52 - 1) < 18446744073709551616 := by
  rw [show (2 : Nat) ^ 63 = 9223372036854775808 by decide, show (2 : Nat) ^ 52 - 1 = 4503599627370495 by decide]
  have hu := Nat.mod_lt (t / 2) (show 0 < 4503599627370495 by omega)
  generalize t / 2 % 4503599627370495 = u at *
  rcases Nat.mod_two_eq_zero_or_one t with h | h
  all_goals
    rw [h]
    refine ⟨?_, by omega⟩
    unfold nanB rg infR; rw [decide_eq_true_eq]; omega
theorem nanOf_bits (w : World) (x y : Nat) : nanB (nanOf w (.nanBits .f64 x y)) = true ∧ nanOf w (.nanBits .f64 x y) < 18446744073709551616 := nan_cut _
theorem nanOf_minmax (w : World) (b : Bool) (x y : Nat) : nanB (nanOf w (.nanMinMax .f64 b x y)) = true ∧ nanOf w (.nanMinMax .f64 b x y) < 18446744073709551616 := nan_cut _
theorem run_sqrt_ok (x r : Nat) (h : Ieee.double.sqrt x = some r) (w : World) : (callFunc 49 #[.float .f64 x]).run Try.prog w = .ok (.value (.float .f64 r)) w := by
  rw [run_callFunc_extern Try.func49 (by kernel_rfl) (by kernel_rfl) (by kernel_rfl) (e := Extern.MathSqrt.sqrt) (by kernel_rfl)]
  have h' : FloatKind.f64.format.sqrt x = some r := h
  change (Sem.run Try.prog (match FloatKind.f64.format.sqrt x with | some r => pure (Value.float .f64 r) | none => do pure (Value.float .f64 (← choose (.nanBits .f64 x x)))) w).andThen _ = _
  rw [h']
  rfl
theorem run_sqrt_nan (x : Nat) (h : Ieee.double.sqrt x = none) (w : World) : (callFunc 49 #[.float .f64 x]).run Try.prog w = .ok (.value (.float .f64 (nanOf w (.nanBits .f64 x x)))) w.drew := by
  rw [run_callFunc_extern Try.func49 (by kernel_rfl) (by kernel_rfl) (by kernel_rfl) (e := Extern.MathSqrt.sqrt) (by kernel_rfl)]
  have h' : FloatKind.f64.format.sqrt x = none := h
  change (Sem.run Try.prog (match FloatKind.f64.format.sqrt x with | some r => pure (Value.float .f64 r) | none => do pure (Value.float .f64 (← choose (.nanBits .f64 x x)))) w).andThen _ = _
  rw [h']
  simp [Result.andThen, Question.forced, nanOf]
theorem read_num {x : Nat} (h : nanB x = false) : (Ieee.double.read x).isNaN = false := by
  have := nan_fin h
  by_cases e : rg x = infR
  · rw [read_inf x e]; rfl
  · obtain ⟨m, i, e1, _⟩ := read_fin x (by omega)
    rw [e1]; rfl
theorem run_floor_ok (x : Nat) (h : nanB x = false) (w : World) : (callFunc 50 #[.float .f64 x]).run Try.prog w = .ok (.value (.float .f64 (flB x))) w := by
  rw [run_callFunc_extern Try.func50 (by kernel_rfl) (by kernel_rfl) (by kernel_rfl) (e := Extern.MathFloor.toIntegral "math.archFloor" .down) (by kernel_rfl)]
  have h' := read_num h
  unfold flB
  have e : FloatKind.f64.decode x = Ieee.double.read x := rfl
  change (Sem.run Try.prog (match FloatKind.f64.decode x with
    | .nan s t => if FloatKind.f64.format.quiet t = t then pure (Value.float .f64 x) else do
      let kept ← choose (.extern "math.Floor,Ceil,Trunc,RoundToEven.signallingNaN kept" 2)
      pure (Value.float .f64 (if kept == 1 then x else FloatKind.f64.encode (.nan s (FloatKind.f64.format.quiet t))))
    | d => pure (Value.float .f64 (FloatKind.f64.encode (d.integral .down)))) w).andThen _ = _
  rw [e]
  cases hd : Ieee.double.read x <;> first | (rw [hd] at h'; cases h'; done) | rfl
theorem run_trunc_ok (x : Nat) (h : nanB x = false) (w : World) : (callFunc 52 #[.float .f64 x]).run Try.prog w = .ok (.value (.float .f64 (trB x))) w := by
  rw [run_callFunc_extern Try.func52 (by kernel_rfl) (by kernel_rfl) (by kernel_rfl) (e := Extern.MathFloor.toIntegral "math.archTrunc" .zero) (by kernel_rfl)]
  have h' := read_num h
  unfold trB
  have e : FloatKind.f64.decode x = Ieee.double.read x := rfl
  change (Sem.run Try.prog (match FloatKind.f64.decode x with
    | .nan s t => if FloatKind.f64.format.quiet t = t then pure (Value.float .f64 x) else do
      let kept ← choose (.extern "math.Floor,Ceil,Trunc,RoundToEven.signallingNaN kept" 2)
      pure (Value.float .f64 (if kept == 1 then x else FloatKind.f64.encode (.nan s (FloatKind.f64.format.quiet t))))
    | d => pure (Value.float .f64 (FloatKind.f64.encode (d.integral .zero)))) w).andThen _ = _
  rw [e]
  cases hd : Ieee.double.read x <;> first | (rw [hd] at h'; cases h'; done) | rfl
theorem write_nan (s : Bool) (t : Nat) (h0 : 0 < t) (h1 : t < 4503599627370496) : nanB (Ieee.double.write (.nan s t)) = true ∧ Ieee.double.write (.nan s t) < 18446744073709551616 := by
  have e : Ieee.double.write (.nan s t) = Ieee.double.word s (infR + t) := by
    show Ieee.double.word s (Ieee.double.infRung + t % Ieee.double.binade) = _
    rw [d_inf, d_binade, Nat.mod_eq_of_lt h1]; rfl
  have l : infR + t < 9223372036854775808 := by unfold infR; omega
  rw [e]
  refine ⟨?_, ?_⟩
  · unfold nanB; rw [rg_word _ _ l, decide_eq_true_eq]; omega
  · rw [word_eq]; cases s <;> simp <;> omega
theorem quiet_bd (t : Nat) (h1 : t < 4503599627370496) : 0 < Ieee.double.quiet t ∧ Ieee.double.quiet t < 4503599627370496 := by
  unfold Ieee.Format.quiet
  rw [show Ieee.double.fractionBits - 1 = 51 from rfl]
  refine ⟨?_, ?_⟩
  · have := Nat.right_le_or (n := t) (m := 2 ^ 51); omega
  · exact Nat.or_lt_two_pow (n := 52) h1 (by decide)
theorem run_floor_nan (x : Nat) (hx : x < 18446744073709551616) (h : nanB x = true) (w : World) : ∃ r w', (callFunc 50 #[.float .f64 x]).run Try.prog w = .ok (.value (.float .f64 r)) w' ∧ nanB r = true ∧ r < 18446744073709551616 ∧ ∃ n, w' = w.drewN n := by
  have h1 : infR < rg x := by simpa [nanB] using h
  have h2 : 0 < rg x - infR ∧ rg x - infR < 4503599627370496 := by unfold rg infR at *; omega
  rw [run_callFunc_extern Try.func50 (by kernel_rfl) (by kernel_rfl) (by kernel_rfl) (e := Extern.MathFloor.toIntegral "math.archFloor" .down) (by kernel_rfl)]
  have e : FloatKind.f64.decode x = .nan (ng x) (rg x - infR) := read_nan x h1
  have hw : ∀ w, Sem.run Try.prog (Extern.MathFloor.toIntegral "math.archFloor" .down #[.float .f64 x]) w = Sem.run Try.prog (if FloatKind.f64.format.quiet (rg x - infR) = rg x - infR then pure (Value.float .f64 x) else do
      let kept ← choose (.extern "math.Floor,Ceil,Trunc,RoundToEven.signallingNaN kept" 2)
      pure (Value.float .f64 (if kept == 1 then x else FloatKind.f64.encode (.nan (ng x) (FloatKind.f64.format.quiet (rg x - infR)))))) w := by
    intro w
    change Sem.run Try.prog (match FloatKind.f64.decode x with
      | .nan s t => if FloatKind.f64.format.quiet t = t then pure (Value.float .f64 x) else do
        let kept ← choose (.extern "math.Floor,Ceil,Trunc,RoundToEven.signallingNaN kept" 2)
        pure (Value.float .f64 (if kept == 1 then x else FloatKind.f64.encode (.nan s (FloatKind.f64.format.quiet t))))
      | d => pure (Value.float .f64 (FloatKind.f64.encode (d.integral .down)))) w = _
    rw [e]
  rw [hw]
  obtain ⟨q1, q2⟩ := quiet_bd _ h2.2
  obtain ⟨w1, w2⟩ := write_nan (ng x) _ q1 q2
  by_cases q : FloatKind.f64.format.quiet (rg x - infR) = rg x - infR
  · rw [if_pos q]
    exact ⟨x, w, rfl, h, hx, 0, rfl⟩
  · rw [if_neg q]
    refine ⟨_, w.drew, by simp [Question.forced, Result.andThen]; rfl, ?_, ?_, 1, rfl⟩
    · split
      · exact h
      · exact w1
    · split
      · exact hx
      · exact w2

end Go.Proofs.Ytbgaoipgfmaijaa
