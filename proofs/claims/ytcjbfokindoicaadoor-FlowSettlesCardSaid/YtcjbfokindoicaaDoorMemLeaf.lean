/- Contracts of package memory's checks and of Byte, and of the document's Byte. -/
import Derived.Test.YtcjbfokindoicaaDoorMem
import Derived.WalkLawsBesides
import Derived.WalkSpells
import Derived.Outline
import Derived.Lib.Hide
import Derived.Deep.QuietTactic
import Derived.BigQuiet
namespace Go.Proofs.YtcjbfokindoicaaDoor.Me
set_option maxRecDepth 100000
open Go.ChangeShapes Go.WideShapes Go.ChangeAt Go.RowKit
set_option linter.unusedVariables false

theorem retI {k : IntKind} {a b : Int} (h : a = b) : Ending.returned (.int k a) = .returned (.int k b) := by rw [h]
theorem retII {k l : IntKind} {a b c d : Int} (h : a = b) (g : c = d) : Ending.returned (.tuple #[.int k a, .int l c]) = .returned (.tuple #[.int k b, .int l d]) := by rw [h, g]

/-- what is thrown of bytes from a place on -/
def tB (n : Nat) (p m : Int) : Int := if p < 0 ∨ m < 0 ∨ (n : Int) - m < p then -9 else 0
/-- what is thrown of a cell -/
def tC (n : Nat) (p : Int) : Int := if p < 0 ∨ (n : Int) - 8 < p then -9 else if p % 8 ≠ 0 then -23 else 0

theorem tB_ok {n : Nat} {p m : Int} (h : 0 ≤ p ∧ 0 ≤ m ∧ p + m ≤ n) : tB n p m = 0 := by unfold tB; rw [if_neg (by omega)]
theorem tB_no {n : Nat} {p m : Int} (h : ¬ (0 ≤ p ∧ 0 ≤ m ∧ p + m ≤ n)) : tB n p m = -9 := by unfold tB; rw [if_pos (by omega)]
theorem tC_ok {n : Nat} {p : Int} (h : 0 ≤ p ∧ p + 8 ≤ n) (h8 : p % 8 = 0) : tC n p = 0 := by unfold tC; rw [if_neg (by omega), if_neg (by omega)]
theorem tC_no {n : Nat} {p : Int} (h : ¬ (0 ≤ p ∧ p + 8 ≤ n)) : tC n p = -9 := by unfold tC; rw [if_pos (by omega)]
theorem tC_odd {n : Nat} {p : Int} (h : 0 ≤ p ∧ p + 8 ≤ n) (h8 : ¬ p % 8 = 0) : tC n p = -23 := by unfold tC; rw [if_neg (by omega), if_pos h8]

theorem ofBytes_any (a : Option Addr) (n c : Nat) (p m : Int) (w : World) (hn : (n : Int) ≤ 9223372036854775807) (hp : -9223372036854775808 ≤ p ∧ p ≤ 9223372036854775807) (hm : -9223372036854775808 ≤ m ∧ m ≤ 9223372036854775807) :
    Calls Tryd.prog 51 #[.slice a n c, .int .i64 p, .int .i64 m] w fun e w' => e = .returned (.int .i64 (tB n p m)) ∧ w = w' := by
  by_cases h1 : p < 0
  · have e : tB n p m = -9 := tB_no (by omega)
    go_enter Tryd.func51, Tryd.ntmps51
    go_wp2
    go_ret
    exact ⟨retI e.symm, rfl⟩
  by_cases h2 : m < 0
  · have e : tB n p m = -9 := tB_no (by omega)
    go_enter Tryd.func51, Tryd.ntmps51
    go_wp2
    go_ret
    exact ⟨rfl, rfl⟩
  by_cases h3 : (n : Int) - m < p
  · have e : tB n p m = -9 := tB_no (by omega)
    go_enter Tryd.func51, Tryd.ntmps51
    go_wp2
    go_ret
    exact ⟨rfl, rfl⟩
  have e : tB n p m = 0 := tB_ok (by omega)
  go_enter Tryd.func51, Tryd.ntmps51
  go_wp2
  go_ret
  exact ⟨rfl, rfl⟩

theorem ofCell_any (a : Option Addr) (n c : Nat) (p : Int) (w : World) (hn : (n : Int) ≤ 9223372036854775807) (hp : -9223372036854775808 ≤ p ∧ p ≤ 9223372036854775807) :
    Calls Tryd.prog 31 #[.slice a n c, .int .i64 p] w fun e w' => e = .returned (.int .i64 (tC n p)) ∧ w = w' := by
  by_cases h1 : 0 ≤ p ∧ p + 8 ≤ n
  · have t0 : (tB n p 8 != 0) = false := by rw [tB_ok (by omega)]; rfl
    by_cases h8 : p % 8 = 0
    · have e : tC n p = 0 := tC_ok h1 h8
      obtain ⟨h1, h2⟩ := h1
      go_enter Tryd.func31, Tryd.ntmps31
      go_wp2_with (go_at_call 51; (with_reducible refine (ofBytes_any _ _ _ _ _ _ (by assumption) (by assumption) (by decide)).mono ?_); rintro e w' ⟨rfl, rfl⟩)
      go_ret
      exact ⟨retI e.symm, rfl⟩
    · have e : tC n p = -23 := tC_odd h1 h8
      obtain ⟨h1, h2⟩ := h1
      go_enter Tryd.func31, Tryd.ntmps31
      go_wp2_with (go_at_call 51; (with_reducible refine (ofBytes_any _ _ _ _ _ _ (by assumption) (by assumption) (by decide)).mono ?_); rintro e w' ⟨rfl, rfl⟩)
      go_ret
      exact ⟨retI e.symm, rfl⟩
  · have t0 : (tB n p 8 != 0) = true := by rw [tB_no (by omega)]; rfl
    have e : tB n p 8 = tC n p := by rw [tB_no (by omega), tC_no h1]
    have e' : Hid (tB n p 8 = tC n p) := e
    clear e h1
    go_enter Tryd.func31, Tryd.ntmps31
    go_wp2_with (go_at_call 51; (with_reducible refine (ofBytes_any _ _ _ _ _ _ (by assumption) (by assumption) (by decide)).mono ?_); rintro e w' ⟨rfl, rfl⟩)
    go_ret
    exact ⟨retI e'.out, rfl⟩

/-- what Byte tells -/
def bytI (xs : List Int) (p : Int) : Int := if 0 ≤ p ∧ p + 1 ≤ xs.length then xs.getD p.toNat 0 else 0

end Go.Proofs.YtcjbfokindoicaaDoor.Me
