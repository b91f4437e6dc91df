/- Control flow, by plain functions: which pairs a word wants, what it lays, settles, opens; what it makes of a state. -/
import Derived.Test.YtcjbfokindoicaaDoorAsmAll
namespace Go.Proofs.YtcjbfokindoicaaDoor
set_option maxRecDepth 100000
open Go.ChangeShapes Go.WideShapes Go.ChangeAt Go.RowKit
open On (St Hs StIs cst Fl one C64 C8 Sc slc spc Sz)
set_option linter.unusedVariables false
set_option maxRecDepth 100000

/-- kinds of pairs, from the top down -/
def kin (op : Int) : List Int := if op = 99 ∨ op = 100 then [1] else if op = 102 ∨ op = 103 ∨ op = 104 then [2] else if op = 105 then [2, 1] else if op = 107 ∨ op = 108 then [3] else []
/-- do such pairs stand on top? -/
def hasB (ctl ks : List Int) : Bool := decide (2 * ks.length ≤ ctl.length ∧ ∀ i, i < ks.length → ctl.getD (ctl.length - 2 - 2 * i) 0 = ks.getD i 0)
/-- what is laid -/
def ldl (op a : Int) : List Int × Bool := if op = 98 ∨ op = 104 then ([4, 0], true) else if op = 99 then ([3, 0], true) else if op = 102 ∨ op = 105 then ([3, a], true) else if op = 103 then ([4, a], true) else if op = 106 then ([5, 0], true) else if op = 107 then ([6, wrap64 (a + 8)], true) else if op = 108 then ([7, wrap64 (a + 8)], true) else ([], false)
/-- which address is settled -/
def stl (op a b : Int) : Int × Bool := if op = 99 ∨ op = 100 ∨ op = 107 ∨ op = 108 then (a, true) else if op = 105 then (b, true) else (0, false)
/-- the pairs that come -/
def opn (op cell a here : Int) : List Int := if op = 98 ∨ op = 99 then [1, cell] else if op = 101 then [2, here] else if op = 104 then [1, cell, 2, a] else if op = 106 then [3, cell] else []
theorem kin_len (op : Int) : (kin op).length ≤ 2 := by unfold kin; (repeat' split) <;> simp
theorem opn_len (op c a h : Int) : (opn op c a h).length ≤ 4 := by unfold opn; (repeat' split) <;> simp
theorem opn_len0 (op c a h : Int) : (opn op c a h).length = (opn op 0 0 0).length := by unfold opn; (repeat' split) <;> simp_all
theorem kin_ok (op : Int) : ∀ z ∈ kin op, C64 z := by
  unfold kin
  repeat' split
  all_goals (intro z hz; simp at hz; try (unfold C64; omega))
theorem ldl_ok {op a : Int} (ha : C64 a) : ∀ z ∈ (ldl op a).1, C64 z := by
  unfold ldl
  repeat' split
  all_goals (intro z hz; simp at hz; try (unfold C64 at *; first | omega | (unfold wrap64 at hz; omega)))
theorem ldl_len (op a : Int) : (ldl op a).1.length ≤ 2 := by unfold ldl; (repeat' split) <;> simp
theorem opn_ok {op c a h : Int} (hc : C64 c) (ha : C64 a) (hh : C64 h) : ∀ z ∈ opn op c a h, C64 z := by
  unfold opn
  repeat' split
  all_goals (intro z hz; simp at hz; try (unfold C64 at *; omega))
theorem stl_ok {op a b : Int} (ha : C64 a) (hb : C64 b) : C64 (stl op a b).1 := by unfold stl; (repeat' split) <;> first | assumption | (unfold C64; omega)

/-- the last word's code, emitted -/
def recC (s : St) : Int × St :=
  if s.words = [] then (-22, On.St.zero) else
  if (s.words.getD (s.words.length - 1) default).hid = false then (-22, On.St.zero) else emitC s [(s.words.getD (s.words.length - 1) default).code]
/-- what is laid and settled: a state, or what is thrown -/
def layS (s : St) (op a : Int) : Int × St := if (ldl op a).2 = true then emitC s (ldl op a).1 else (0, s)
def setS (s : St) (op a b : Int) : Int × St := if (stl op a b).2 = true then patC s (stl op a b).1 s.here else (0, s)
/-- the address of the top pair, and of the one below -/
def topA (s : St) (op : Int) : Int := if 0 < (kin op).length then s.ctl.getD (s.ctl.length - 1) 0 else 0
def topB (s : St) (op : Int) : Int := if 1 < (kin op).length then s.ctl.getD (s.ctl.length - 3) 0 else 0
def lowC (s : St) (op : Int) : List Int := s.ctl.take (s.ctl.length - 2 * (kin op).length)
/-- what is thrown; is it such a word? the state then -/
def floC (s : St) (op : Int) : Int × Bool × St :=
  if op < 98 ∨ 109 < op then (0, false, On.St.zero)
  else if op = 109 then ((recC s).1, true, (recC s).2)
  else if hasB s.ctl (kin op) = false then (-22, true, On.St.zero)
  else if 0 < (opn op 0 0 0).length ∧ 128 < (lowC s op).length + (opn op 0 0 0).length then (-3, true, On.St.zero)
  else if (layS s op (topA s op)).1 ≠ 0 then ((layS s op (topA s op)).1, true, On.St.zero)
  else if (setS (layS s op (topA s op)).2 op (topA s op) (topB s op)).1 ≠ 0 then ((setS (layS s op (topA s op)).2 op (topA s op) (topB s op)).1, true, On.St.zero)
  else (0, true, { (setS (layS s op (topA s op)).2 op (topA s op) (topB s op)).2 with ctl := lowC s op ++ opn op (wrap64 ((setS (layS s op (topA s op)).2 op (topA s op) (topB s op)).2.here - 8)) (topA s op) (setS (layS s op (topA s op)).2 op (topA s op) (topB s op)).2.here })
end Go.Proofs.YtcjbfokindoicaaDoor
