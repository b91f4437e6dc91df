/- The document's Fetch. -/
import Derived.Test.YtcjbfokindoicaaDoorUpS
import Derived.Test.YtcjbfokindoicaaDoorOpsRkind
namespace Go.Proofs.YtcjbfokindoicaaDoor
set_option maxRecDepth 100000
open Go.ChangeShapes Go.WideShapes Go.ChangeAt Go.RowKit
open On (C64 C8)
set_option linter.unusedVariables false
set_option maxRecDepth 100000

/-- one result: a variable that holds a struct -/
theorem results_row1 {P : Program} {fn : Func} {p : Tmp} {ty : TypeId} (h : fn.results = #[.cell p ty]) (tmps : Array Value) (w : World) (g : Nat) (t : TypeId) (cs : Array Value) (d : TypeDesc)
    (hp : tmps.getD p undef = .pointer (some ⟨g, 0, none⟩)) (hg : Bx w g t cs)
    (hu : P.underlying ty = some d) (hd : (match d with | .struct _ | .array _ _ => true | _ => false) = true) (hi : (P.info? ty).map (·.size) = some cs.size) :
    (results fn tmps).run P w = .ok (.agg cs) w := by
  have hp' : tmps[p]?.getD undef = .pointer (some ⟨g, 0, none⟩) := by simpa using hp
  simp [results, h, hp', asAddr, run_loadVar_row w g t ty cs (0, 0) d hg hu hd hi]

/-- the code at an address: op, with, next, and what is thrown -/
def fetC (xs : List Int) (p : Int) : Int × Int × Int × Int :=
  if Me.tC xs.length p ≠ 0 then (0, 0, 0, Me.tC xs.length p)
  else if On.wid (Me.celI xs p) = false then (Me.celI xs p, 0, p + 8, 0)
  else if Me.tC xs.length (p + 8) ≠ 0 then (0, 0, 0, Me.tC xs.length (p + 8))
  else if Me.celI xs p ≠ 10 then (Me.celI xs p, Me.celI xs (p + 8), p + 16, 0)
  else if Me.celI xs (p + 8) < 0 ∨ xs.length < Me.celI xs (p + 8) ∨ xs.length - p - 16 < up (Me.celI xs (p + 8)) then (0, 0, 0, -9)
  else (10, Me.celI xs (p + 8), p + 16 + up (Me.celI xs (p + 8)), 0)
def codeV (x : Int × Int × Int × Int) : Value := .agg #[.int .i64 x.1, .int .i64 x.2.1, .int .i64 x.2.2.1, .int .i64 x.2.2.2]
end Go.Proofs.YtcjbfokindoicaaDoor
