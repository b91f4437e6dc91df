/-
  NARROWER THAN 'FOR EVERY INPUT', by the rows' own cells (each row's printed sentence says how): FlowDoes: laid · FlowRuns: laid · FlowCloses: laid · FlowSettles: laid · FlowMisses: laid.
  DERIVED. THE GIVEN ROWS OF THIS SEAT. 5 by the template 'for every input the law returns true; each argument reads behind the call as it read before'; 0 by the template 'total and deterministic' (their statements: YtcjbfokindoicaaDoorTotals.lean).
  GIVEN WITH THE SEED: the statements are not yours to turn. If you find one false, say at which input.
  Laid BY PROGRAM, IN A SANDBOX (cutbox-rows.mjs): the forced cells as the released guide's own fill.sh prints them over the translation 79f09798bcca8e00… (all of the seat's roots in one cut). By AI agents, Wed Nov 11 2026. No macro, syntax, notation, axiom, sorry.
-/
import Derived.Test.YtcjbfokindoicaaDoorChecked
import GoSem.Claim
import GoSem.ClaimJoined
import GoSem.ClaimMapViews
import Derived.JoinedTies
import Derived.KernelRfl
namespace Go.Proofs.YtcjbfokindoicaaDoor
/- THE CELL 'sum', in the pinned program and in every row, IS THE sha256 OF THE DUMP (.gsa) THAT YtcjbfokindoicaaDoorProg.lean LOADS. Nothing in Lean hashes anything: it is a label: what it is worth is what the hold of that sum in a sandbox is worth. -/
noncomputable def Tryd.pinned : Pinned := { name := "ytcjbfokindoicaadoor", sum := "79f09798bcca8e0010f2a78f7132ffb27660fda2abe2af7f21d5e96125239b36", checked := Tryd.checked }
namespace Rows
def none {H : Type} : Left H := { results := [], args := [] }

/- WHAT THE LISTED PACKAGE-LEVEL VARIABLES READ AS WHEN THE CALL BEGINS. Each datum BY PROGRAM (the guide's laid-datum.mjs) off the statement by which the dump's own 'gosem.cut.vars' lays the variable. In a bare row this is a premise. The card (YtcjbfokindoicaaDoorCards.lean) ties it to the program's text. -/
def laid_nostos_ops_words {H : Type} : DataW H := .agg [.lit (.string [69, 88, 73, 84]), .lit (.string [40, 76, 73, 84, 41]), .lit (.string [40, 66, 82, 65, 78, 67, 72, 41]), .lit (.string [40, 48, 66, 82, 65, 78, 67, 72, 41]), .lit (.string [40, 68, 79, 41]), .lit (.string [40, 76, 79, 79, 80, 41]), .lit (.string [40, 43, 76, 79, 79, 80, 41]), .lit (.string [40, 86, 65, 82, 41]), .lit (.string [40, 68, 79, 69, 83, 41]), .lit (.string [40, 84, 69, 88, 84, 41]), .lit (.string [40, 77, 65, 82, 75, 41]), .lit (.string [67, 79, 77, 80, 73, 76, 69, 44]), .lit (.string [68, 85, 80]), .lit (.string [68, 82, 79, 80]), .lit (.string [83, 87, 65, 80]), .lit (.string [79, 86, 69, 82]), .lit (.string [82, 79, 84]), .lit (.string [78, 73, 80]), .lit (.string [84, 85, 67, 75]), .lit (.string [63, 68, 85, 80]), .lit (.string [50, 68, 85, 80]), .lit (.string [50, 68, 82, 79, 80]), .lit (.string [50, 83, 87, 65, 80]), .lit (.string [50, 79, 86, 69, 82]), .lit (.string [80, 73, 67, 75]), .lit (.string [82, 79, 76, 76]), .lit (.string [68, 69, 80, 84, 72]), .lit (.string [43]), .lit (.string [45]), .lit (.string [42]), .lit (.string [47]), .lit (.string [77, 79, 68]), .lit (.string [47, 77, 79, 68]), .lit (.string [42, 47]), .lit (.string [42, 47, 77, 79, 68]), .lit (.string [49, 43]), .lit (.string [49, 45]), .lit (.string [50, 42]), .lit (.string [50, 47]), .lit (.string [78, 69, 71, 65, 84, 69]), .lit (.string [65, 66, 83]), .lit (.string [77, 73, 78]), .lit (.string [77, 65, 88]), .lit (.string [65, 78, 68]), .lit (.string [79, 82]), .lit (.string [88, 79, 82]), .lit (.string [73, 78, 86, 69, 82, 84]), .lit (.string [76, 83, 72, 73, 70, 84]), .lit (.string [82, 83, 72, 73, 70, 84]), .lit (.string [61]), .lit (.string [60, 62]), .lit (.string [60]), .lit (.string [62]), .lit (.string [85, 60]), .lit (.string [48, 61]), .lit (.string [48, 60]), .lit (.string [48, 60, 62]), .lit (.string [48, 62]), .lit (.string [87, 73, 84, 72, 73, 78]), .lit (.string [84, 82, 85, 69]), .lit (.string [70, 65, 76, 83, 69]), .lit (.string [67, 69, 76, 76, 83]), .lit (.string [67, 69, 76, 76, 43]), .lit (.string [70, 43]), .lit (.string [70, 45]), .lit (.string [70, 42]), .lit (.string [70, 47]), .lit (.string [70, 77, 73, 78]), .lit (.string [70, 77, 65, 88]), .lit (.string [70, 78, 69, 71, 65, 84, 69]), .lit (.string [70, 65, 66, 83]), .lit (.string [70, 83, 81, 82, 84]), .lit (.string [70, 76, 79, 79, 82]), .lit (.string [70, 60]), .lit (.string [70, 61]), .lit (.string [83, 62, 70]), .lit (.string [70, 62, 83]), .lit (.string [64]), .lit (.string [33]), .lit (.string [43, 33]), .lit (.string [67, 64]), .lit (.string [67, 33]), .lit (.string [72, 69, 82, 69]), .lit (.string [65, 76, 76, 79, 84]), .lit (.string [44]), .lit (.string [67, 44]), .lit (.string [65, 76, 73, 71, 78]), .lit (.string [66, 65, 83, 69]), .lit (.string [68, 69, 67, 73, 77, 65, 76]), .lit (.string [72, 69, 88]), .lit (.string [62, 82]), .lit (.string [82, 62]), .lit (.string [82, 64]), .lit (.string [73]), .lit (.string [74]), .lit (.string [85, 78, 76, 79, 79, 80]), .lit (.string [76, 69, 65, 86, 69]), .lit (.string [73, 70]), .lit (.string [69, 76, 83, 69]), .lit (.string [84, 72, 69, 78]), .lit (.string [66, 69, 71, 73, 78]), .lit (.string [65, 71, 65, 73, 78]), .lit (.string [85, 78, 84, 73, 76]), .lit (.string [87, 72, 73, 76, 69]), .lit (.string [82, 69, 80, 69, 65, 84]), .lit (.string [68, 79]), .lit (.string [76, 79, 79, 80]), .lit (.string [43, 76, 79, 79, 80]), .lit (.string [82, 69, 67, 85, 82, 83, 69]), .lit (.string [58]), .lit (.string [59]), .lit (.string [73, 77, 77, 69, 68, 73, 65, 84, 69]), .lit (.string [67, 79, 78, 83, 84, 65, 78, 84]), .lit (.string [86, 65, 82, 73, 65, 66, 76, 69]), .lit (.string [67, 82, 69, 65, 84, 69]), .lit (.string [68, 79, 69, 83, 62]), .lit (.string [77, 65, 82, 75, 69, 82]), .lit (.string [39]), .lit (.string [91, 39, 93]), .lit (.string [76, 73, 84, 69, 82, 65, 76]), .lit (.string [80, 79, 83, 84, 80, 79, 78, 69]), .lit (.string [91]), .lit (.string [93]), .lit (.string [69, 88, 69, 67, 85, 84, 69]), .lit (.string [67, 72, 65, 82]), .lit (.string [91, 67, 72, 65, 82, 93]), .lit (.string [40]), .lit (.string [92]), .lit (.string [46, 34]), .lit (.string [69, 77, 73, 84]), .lit (.string [67, 82]), .lit (.string [83, 80, 65, 67, 69]), .lit (.string [46]), .lit (.string [84, 89, 80, 69]), .lit (.string [75, 69, 89]), .lit (.string [84, 72, 82, 79, 87]), .lit (.string [65, 66, 79, 82, 84])]

/-- 'nostoslaw11.FlowDoes': WHATEVER THE INPUT: true; the input reads as it did. -/
def flowDoesSpec : ChangeSpec := { name := "flowDoes", fn := fun _ => fun
  | [d1, d2] => { results := [.lit (.bool true)], args := [d1, d2] }
  | _ => none }
def flowDoesRow : OpenClaim := { program := "ytcjbfokindoicaadoor", sum := "79f09798bcca8e0010f2a78f7132ffb27660fda2abe2af7f21d5e96125239b36", func := "nostos/nostoslaw11.FlowDoes", spec := "flowDoes", unfollowed := true, recurses := true, named := ["nostos/ops.words"], apart := false, laid := [("nostos/ops.words", laid_nostos_ops_words)] }
def FlowDoesSaid : Prop := flowDoesRow.holds Tryd.pinned (OpenSpec.ofChange flowDoesSpec)

/-- ITS FALSE NEIGHBOUR: 'it returns false'. Refute it at one input. -/
def flowDoesWrong : ChangeSpec := { name := "flowDoes", fn := fun _ => fun
  | [d1, d2] => { results := [.lit (.bool false)], args := [d1, d2] }
  | _ => none }
def FlowDoesWrongFalsely : Prop := flowDoesRow.holds Tryd.pinned (OpenSpec.ofChange flowDoesWrong)

/-- 'nostoslaw11.FlowRuns': WHATEVER THE INPUT: true; the input reads as it did. -/
def flowRunsSpec : ChangeSpec := { name := "flowRuns", fn := fun _ => fun
  | [d1, d2] => { results := [.lit (.bool true)], args := [d1, d2] }
  | _ => none }
def flowRunsRow : OpenClaim := { program := "ytcjbfokindoicaadoor", sum := "79f09798bcca8e0010f2a78f7132ffb27660fda2abe2af7f21d5e96125239b36", func := "nostos/nostoslaw11.FlowRuns", spec := "flowRuns", unfollowed := true, recurses := true, named := ["nostos/ops.words"], apart := false, laid := [("nostos/ops.words", laid_nostos_ops_words)] }
def FlowRunsSaid : Prop := flowRunsRow.holds Tryd.pinned (OpenSpec.ofChange flowRunsSpec)

/-- ITS FALSE NEIGHBOUR: 'it returns false'. Refute it at one input. -/
def flowRunsWrong : ChangeSpec := { name := "flowRuns", fn := fun _ => fun
  | [d1, d2] => { results := [.lit (.bool false)], args := [d1, d2] }
  | _ => none }
def FlowRunsWrongFalsely : Prop := flowRunsRow.holds Tryd.pinned (OpenSpec.ofChange flowRunsWrong)

/-- 'nostoslaw11.FlowCloses': WHATEVER THE INPUT: true; the input reads as it did. -/
def flowClosesSpec : ChangeSpec := { name := "flowCloses", fn := fun _ => fun
  | [d1, d2] => { results := [.lit (.bool true)], args := [d1, d2] }
  | _ => none }
def flowClosesRow : OpenClaim := { program := "ytcjbfokindoicaadoor", sum := "79f09798bcca8e0010f2a78f7132ffb27660fda2abe2af7f21d5e96125239b36", func := "nostos/nostoslaw11.FlowCloses", spec := "flowCloses", unfollowed := true, recurses := true, named := ["nostos/ops.words"], apart := false, laid := [("nostos/ops.words", laid_nostos_ops_words)] }
def FlowClosesSaid : Prop := flowClosesRow.holds Tryd.pinned (OpenSpec.ofChange flowClosesSpec)

/-- ITS FALSE NEIGHBOUR: 'it returns false'. Refute it at one input. -/
def flowClosesWrong : ChangeSpec := { name := "flowCloses", fn := fun _ => fun
  | [d1, d2] => { results := [.lit (.bool false)], args := [d1, d2] }
  | _ => none }
def FlowClosesWrongFalsely : Prop := flowClosesRow.holds Tryd.pinned (OpenSpec.ofChange flowClosesWrong)

/-- 'nostoslaw11.FlowSettles': WHATEVER THE INPUT: true; the input reads as it did. -/
def flowSettlesSpec : ChangeSpec := { name := "flowSettles", fn := fun _ => fun
  | [d1, d2] => { results := [.lit (.bool true)], args := [d1, d2] }
  | _ => none }
def flowSettlesRow : OpenClaim := { program := "ytcjbfokindoicaadoor", sum := "79f09798bcca8e0010f2a78f7132ffb27660fda2abe2af7f21d5e96125239b36", func := "nostos/nostoslaw11.FlowSettles", spec := "flowSettles", unfollowed := true, recurses := true, named := ["nostos/ops.words"], apart := false, laid := [("nostos/ops.words", laid_nostos_ops_words)] }
def FlowSettlesSaid : Prop := flowSettlesRow.holds Tryd.pinned (OpenSpec.ofChange flowSettlesSpec)

/-- ITS FALSE NEIGHBOUR: 'it returns false'. Refute it at one input. -/
def flowSettlesWrong : ChangeSpec := { name := "flowSettles", fn := fun _ => fun
  | [d1, d2] => { results := [.lit (.bool false)], args := [d1, d2] }
  | _ => none }
def FlowSettlesWrongFalsely : Prop := flowSettlesRow.holds Tryd.pinned (OpenSpec.ofChange flowSettlesWrong)

/-- 'nostoslaw11.FlowMisses': WHATEVER THE INPUT: true; the input reads as it did. -/
def flowMissesSpec : ChangeSpec := { name := "flowMisses", fn := fun _ => fun
  | [d1, d2] => { results := [.lit (.bool true)], args := [d1, d2] }
  | _ => none }
def flowMissesRow : OpenClaim := { program := "ytcjbfokindoicaadoor", sum := "79f09798bcca8e0010f2a78f7132ffb27660fda2abe2af7f21d5e96125239b36", func := "nostos/nostoslaw11.FlowMisses", spec := "flowMisses", unfollowed := true, recurses := true, named := ["nostos/ops.words"], apart := false, laid := [("nostos/ops.words", laid_nostos_ops_words)] }
def FlowMissesSaid : Prop := flowMissesRow.holds Tryd.pinned (OpenSpec.ofChange flowMissesSpec)

/-- ITS FALSE NEIGHBOUR: 'it returns false'. Refute it at one input. -/
def flowMissesWrong : ChangeSpec := { name := "flowMisses", fn := fun _ => fun
  | [d1, d2] => { results := [.lit (.bool false)], args := [d1, d2] }
  | _ => none }
def FlowMissesWrongFalsely : Prop := flowMissesRow.holds Tryd.pinned (OpenSpec.ofChange flowMissesWrong)

/- THE SECOND FORM. 'bulk': how many values and letters a reading holds, each counted each time it is reached (what is shared counts as often as it is met; a slice's spare places count too). A statement '..UptoSaid' is the law's where the arguments, and the package variables that the reading takes, are together of bulk at most 1048576: NARROWER than '..Said'. Prove '..Said' where nothing that the law and all that it calls make is longer than what came in: it says more and counts as full. Else prove '..UptoSaid'. A law counts once. -/
mutual
def uptoBulk {H : Type} : DataW H → Nat
  | .lit (.string bytes) => bytes.length + 1
  | .lit _ => 1
  | .nil => 1
  | .ptr d => uptoBulk d + 1
  | .slice elems spare => uptoBulkAll elems + uptoBulkAll spare + 1
  | .agg parts => uptoBulkAll parts + 1
  | .iface _ d => uptoBulk d + 1
  | .map entries => uptoBulkEntries entries + 1
  | .held _ => 1
def uptoBulkAll {H : Type} : List (DataW H) → Nat
  | [] => 0
  | d :: r => uptoBulk d + uptoBulkAll r
def uptoBulkEntries {H : Type} : List (Lit × DataW H) → Nat
  | [] => 0
  | x :: r => uptoBulkEntry x + uptoBulkEntries r
def uptoBulkEntry {H : Type} : Lit × DataW H → Nat
  | (.string bytes, d) => bytes.length + uptoBulk d + 1
  | (_, d) => uptoBulk d + 1
 end
def uptoSmall : (H : Type) → List (DataW H) → Bool := fun _ ds => decide (uptoBulkAll ds ≤ 1048576)
def OpenSpec.upto (s : _root_.Go.ChangeSpec) : _root_.Go.OpenSpec := { _root_.Go.OpenSpec.ofChange s with cond := some uptoSmall }

/-- 'nostoslaw11.FlowDoes', WHERE WHAT IT READS IS OF BULK AT MOST 1048576: true; the input reads as it did. -/
def flowDoesUptoRow : OpenClaim := { program := "ytcjbfokindoicaadoor", sum := "79f09798bcca8e0010f2a78f7132ffb27660fda2abe2af7f21d5e96125239b36", func := "nostos/nostoslaw11.FlowDoes", spec := "flowDoes", unfollowed := true, recurses := true, named := ["nostos/ops.words"], apart := false, laid := [("nostos/ops.words", laid_nostos_ops_words)], narrowed := true }
def FlowDoesUptoSaid : Prop := flowDoesUptoRow.holds Tryd.pinned (OpenSpec.upto flowDoesSpec)

/-- 'nostoslaw11.FlowRuns', WHERE WHAT IT READS IS OF BULK AT MOST 1048576: true; the input reads as it did. -/
def flowRunsUptoRow : OpenClaim := { program := "ytcjbfokindoicaadoor", sum := "79f09798bcca8e0010f2a78f7132ffb27660fda2abe2af7f21d5e96125239b36", func := "nostos/nostoslaw11.FlowRuns", spec := "flowRuns", unfollowed := true, recurses := true, named := ["nostos/ops.words"], apart := false, laid := [("nostos/ops.words", laid_nostos_ops_words)], narrowed := true }
def FlowRunsUptoSaid : Prop := flowRunsUptoRow.holds Tryd.pinned (OpenSpec.upto flowRunsSpec)

/-- 'nostoslaw11.FlowCloses', WHERE WHAT IT READS IS OF BULK AT MOST 1048576: true; the input reads as it did. -/
def flowClosesUptoRow : OpenClaim := { program := "ytcjbfokindoicaadoor", sum := "79f09798bcca8e0010f2a78f7132ffb27660fda2abe2af7f21d5e96125239b36", func := "nostos/nostoslaw11.FlowCloses", spec := "flowCloses", unfollowed := true, recurses := true, named := ["nostos/ops.words"], apart := false, laid := [("nostos/ops.words", laid_nostos_ops_words)], narrowed := true }
def FlowClosesUptoSaid : Prop := flowClosesUptoRow.holds Tryd.pinned (OpenSpec.upto flowClosesSpec)

/-- 'nostoslaw11.FlowSettles', WHERE WHAT IT READS IS OF BULK AT MOST 1048576: true; the input reads as it did. -/
def flowSettlesUptoRow : OpenClaim := { program := "ytcjbfokindoicaadoor", sum := "79f09798bcca8e0010f2a78f7132ffb27660fda2abe2af7f21d5e96125239b36", func := "nostos/nostoslaw11.FlowSettles", spec := "flowSettles", unfollowed := true, recurses := true, named := ["nostos/ops.words"], apart := false, laid := [("nostos/ops.words", laid_nostos_ops_words)], narrowed := true }
def FlowSettlesUptoSaid : Prop := flowSettlesUptoRow.holds Tryd.pinned (OpenSpec.upto flowSettlesSpec)

/-- 'nostoslaw11.FlowMisses', WHERE WHAT IT READS IS OF BULK AT MOST 1048576: true; the input reads as it did. -/
def flowMissesUptoRow : OpenClaim := { program := "ytcjbfokindoicaadoor", sum := "79f09798bcca8e0010f2a78f7132ffb27660fda2abe2af7f21d5e96125239b36", func := "nostos/nostoslaw11.FlowMisses", spec := "flowMisses", unfollowed := true, recurses := true, named := ["nostos/ops.words"], apart := false, laid := [("nostos/ops.words", laid_nostos_ops_words)], narrowed := true }
def FlowMissesUptoSaid : Prop := flowMissesUptoRow.holds Tryd.pinned (OpenSpec.upto flowMissesSpec)

end Rows
end Go.Proofs.YtcjbfokindoicaaDoor
