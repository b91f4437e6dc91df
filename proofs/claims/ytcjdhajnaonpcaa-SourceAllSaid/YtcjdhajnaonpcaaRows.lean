/-
  No cell of these rows narrows 'for every input' (looked for: loops, veiled, ifaces, maps, wideKeys, modest, calm, conditions, laid).
  DERIVED. THE GIVEN ROWS OF THIS SEAT. 5 by the template 'for every input the law returns true; each argument reads behind the call as it read before'; 0 by the template 'total and deterministic' (their statements: YtcjdhajnaonpcaaTotals.lean).
  GIVEN WITH THE SEED: the statements are not yours to turn. If you find one false, say at which input.
  Laid BY PROGRAM, IN A SANDBOX (cutbox-rows.mjs): the forced cells as the released guide's own fill.sh prints them over the translation a710d00f677b013e… (all of the seat's roots in one cut). By AI agents, Wed Nov 11 2026. No macro, syntax, notation, axiom, sorry.
-/
import Derived.Test.YtcjdhajnaonpcaaChecked
import GoSem.Claim
import GoSem.ClaimJoined
import GoSem.ClaimMapViews
import Derived.JoinedTies
import Derived.KernelRfl
namespace Go.Proofs.Ytcjdhajnaonpcaa
/- THE CELL 'sum', in the pinned program and in every row, IS THE sha256 OF THE DUMP (.gsa) THAT YtcjdhajnaonpcaaProg.lean LOADS. Nothing in Lean hashes anything: it is a label: what it is worth is what the hold of that sum in a sandbox is worth. -/
noncomputable def Try.pinned : Pinned := { name := "ytcjdhajnaonpcaa", sum := "a710d00f677b013e1295a1bf3d28cd791c1625499afe796831b8dfed6cdc3781", checked := Try.checked }
namespace Rows
def none {H : Type} : Left H := { results := [], args := [] }

/-- 'nostoslaw06.SourceTokens': WHATEVER THE INPUT: true; the input reads as it did. -/
def sourceTokensSpec : ChangeSpec := { name := "sourceTokens", fn := fun _ => fun
  | [d1, d2] => { results := [.lit (.bool true)], args := [d1, d2] }
  | _ => none }
def sourceTokensRow : OpenClaim := { program := "ytcjdhajnaonpcaa", sum := "a710d00f677b013e1295a1bf3d28cd791c1625499afe796831b8dfed6cdc3781", func := "nostos/nostoslaw06.SourceTokens", spec := "sourceTokens", unfollowed := true, recurses := true, apart := false }
def SourceTokensSaid : Prop := sourceTokensRow.holds Try.pinned (OpenSpec.ofChange sourceTokensSpec)

/-- ITS FALSE NEIGHBOUR: 'it returns false'. Refute it at one input. -/
def sourceTokensWrong : ChangeSpec := { name := "sourceTokens", fn := fun _ => fun
  | [d1, d2] => { results := [.lit (.bool false)], args := [d1, d2] }
  | _ => none }
def SourceTokensWrongFalsely : Prop := sourceTokensRow.holds Try.pinned (OpenSpec.ofChange sourceTokensWrong)

/-- 'nostoslaw06.SourceUntil': WHATEVER THE INPUT: true; the input reads as it did. -/
def sourceUntilSpec : ChangeSpec := { name := "sourceUntil", fn := fun _ => fun
  | [d1, d2, d3] => { results := [.lit (.bool true)], args := [d1, d2, d3] }
  | _ => none }
def sourceUntilRow : OpenClaim := { program := "ytcjdhajnaonpcaa", sum := "a710d00f677b013e1295a1bf3d28cd791c1625499afe796831b8dfed6cdc3781", func := "nostos/nostoslaw06.SourceUntil", spec := "sourceUntil", unfollowed := true, recurses := true, apart := false }
def SourceUntilSaid : Prop := sourceUntilRow.holds Try.pinned (OpenSpec.ofChange sourceUntilSpec)

/-- ITS FALSE NEIGHBOUR: 'it returns false'. Refute it at one input. -/
def sourceUntilWrong : ChangeSpec := { name := "sourceUntil", fn := fun _ => fun
  | [d1, d2, d3] => { results := [.lit (.bool false)], args := [d1, d2, d3] }
  | _ => none }
def SourceUntilWrongFalsely : Prop := sourceUntilRow.holds Try.pinned (OpenSpec.ofChange sourceUntilWrong)

/-- 'nostoslaw06.SourcePlaces': WHATEVER THE INPUT: true; the input reads as it did. -/
def sourcePlacesSpec : ChangeSpec := { name := "sourcePlaces", fn := fun _ => fun
  | [d1, d2, d3] => { results := [.lit (.bool true)], args := [d1, d2, d3] }
  | _ => none }
def sourcePlacesRow : OpenClaim := { program := "ytcjdhajnaonpcaa", sum := "a710d00f677b013e1295a1bf3d28cd791c1625499afe796831b8dfed6cdc3781", func := "nostos/nostoslaw06.SourcePlaces", spec := "sourcePlaces", unfollowed := true, recurses := true, apart := false }
def SourcePlacesSaid : Prop := sourcePlacesRow.holds Try.pinned (OpenSpec.ofChange sourcePlacesSpec)

/-- ITS FALSE NEIGHBOUR: 'it returns false'. Refute it at one input. -/
def sourcePlacesWrong : ChangeSpec := { name := "sourcePlaces", fn := fun _ => fun
  | [d1, d2, d3] => { results := [.lit (.bool false)], args := [d1, d2, d3] }
  | _ => none }
def SourcePlacesWrongFalsely : Prop := sourcePlacesRow.holds Try.pinned (OpenSpec.ofChange sourcePlacesWrong)

/-- 'nostoslaw06.SourceAll': WHATEVER THE INPUT: true; the input reads as it did. -/
def sourceAllSpec : ChangeSpec := { name := "sourceAll", fn := fun _ => fun
  | [d] => { results := [.lit (.bool true)], args := [d] }
  | _ => none }
def sourceAllRow : OpenClaim := { program := "ytcjdhajnaonpcaa", sum := "a710d00f677b013e1295a1bf3d28cd791c1625499afe796831b8dfed6cdc3781", func := "nostos/nostoslaw06.SourceAll", spec := "sourceAll", unfollowed := true, recurses := true, apart := false }
def SourceAllSaid : Prop := sourceAllRow.holds Try.pinned (OpenSpec.ofChange sourceAllSpec)

/-- ITS FALSE NEIGHBOUR: 'it returns false'. Refute it at one input. -/
def sourceAllWrong : ChangeSpec := { name := "sourceAll", fn := fun _ => fun
  | [d] => { results := [.lit (.bool false)], args := [d] }
  | _ => none }
def SourceAllWrongFalsely : Prop := sourceAllRow.holds Try.pinned (OpenSpec.ofChange sourceAllWrong)

/-- 'nostoslaw06.SourceLines': WHATEVER THE INPUT: true; the input reads as it did. -/
def sourceLinesSpec : ChangeSpec := { name := "sourceLines", fn := fun _ => fun
  | [d] => { results := [.lit (.bool true)], args := [d] }
  | _ => none }
def sourceLinesRow : OpenClaim := { program := "ytcjdhajnaonpcaa", sum := "a710d00f677b013e1295a1bf3d28cd791c1625499afe796831b8dfed6cdc3781", func := "nostos/nostoslaw06.SourceLines", spec := "sourceLines", unfollowed := true, recurses := true, apart := false }
def SourceLinesSaid : Prop := sourceLinesRow.holds Try.pinned (OpenSpec.ofChange sourceLinesSpec)

/-- ITS FALSE NEIGHBOUR: 'it returns false'. Refute it at one input. -/
def sourceLinesWrong : ChangeSpec := { name := "sourceLines", fn := fun _ => fun
  | [d] => { results := [.lit (.bool false)], args := [d] }
  | _ => none }
def SourceLinesWrongFalsely : Prop := sourceLinesRow.holds Try.pinned (OpenSpec.ofChange sourceLinesWrong)

/- THE SECOND FORM. 'bulk': how many values and letters a reading holds, each counted each time it is reached (what is shared counts as often as it is met; a slice's spare places count too). A statement '..UptoSaid' is the law's where the arguments, and the package variables that the reading takes, are together of bulk at most 1048576: NARROWER than '..Said'. Prove '..Said' where nothing that the law and all that it calls make is longer than what came in: it says more and counts as full. Else prove '..UptoSaid'. A law counts once. -/
mutual
def uptoBulk {H : Type} : DataW H → Nat
  | .lit (.string bytes) => bytes.length + 1
  | .lit _ => 1
  | .nil => 1
  | .ptr d => uptoBulk d + 1
  | .slice elems spare => uptoBulkAll elems + uptoBulkAll spare + 1
  | .agg parts => uptoBulkAll parts + 1
  | .iface _ d => uptoBulk d + 1
  | .map entries => uptoBulkEntries entries + 1
  | .held _ => 1
def uptoBulkAll {H : Type} : List (DataW H) → Nat
  | [] => 0
  | d :: r => uptoBulk d + uptoBulkAll r
def uptoBulkEntries {H : Type} : List (Lit × DataW H) → Nat
  | [] => 0
  | x :: r => uptoBulkEntry x + uptoBulkEntries r
def uptoBulkEntry {H : Type} : Lit × DataW H → Nat
  | (.string bytes, d) => bytes.length + uptoBulk d + 1
  | (_, d) => uptoBulk d + 1
 end
def uptoSmall : (H : Type) → List (DataW H) → Bool := fun _ ds => decide (uptoBulkAll ds ≤ 1048576)
def OpenSpec.upto (s : _root_.Go.ChangeSpec) : _root_.Go.OpenSpec := { _root_.Go.OpenSpec.ofChange s with cond := some uptoSmall }

/-- 'nostoslaw06.SourceTokens', WHERE WHAT IT READS IS OF BULK AT MOST 1048576: true; the input reads as it did. -/
def sourceTokensUptoRow : OpenClaim := { program := "ytcjdhajnaonpcaa", sum := "a710d00f677b013e1295a1bf3d28cd791c1625499afe796831b8dfed6cdc3781", func := "nostos/nostoslaw06.SourceTokens", spec := "sourceTokens", unfollowed := true, recurses := true, apart := false, narrowed := true }
def SourceTokensUptoSaid : Prop := sourceTokensUptoRow.holds Try.pinned (OpenSpec.upto sourceTokensSpec)

/-- 'nostoslaw06.SourceUntil', WHERE WHAT IT READS IS OF BULK AT MOST 1048576: true; the input reads as it did. -/
def sourceUntilUptoRow : OpenClaim := { program := "ytcjdhajnaonpcaa", sum := "a710d00f677b013e1295a1bf3d28cd791c1625499afe796831b8dfed6cdc3781", func := "nostos/nostoslaw06.SourceUntil", spec := "sourceUntil", unfollowed := true, recurses := true, apart := false, narrowed := true }
def SourceUntilUptoSaid : Prop := sourceUntilUptoRow.holds Try.pinned (OpenSpec.upto sourceUntilSpec)

/-- 'nostoslaw06.SourcePlaces', WHERE WHAT IT READS IS OF BULK AT MOST 1048576: true; the input reads as it did. -/
def sourcePlacesUptoRow : OpenClaim := { program := "ytcjdhajnaonpcaa", sum := "a710d00f677b013e1295a1bf3d28cd791c1625499afe796831b8dfed6cdc3781", func := "nostos/nostoslaw06.SourcePlaces", spec := "sourcePlaces", unfollowed := true, recurses := true, apart := false, narrowed := true }
def SourcePlacesUptoSaid : Prop := sourcePlacesUptoRow.holds Try.pinned (OpenSpec.upto sourcePlacesSpec)

/-- 'nostoslaw06.SourceAll', WHERE WHAT IT READS IS OF BULK AT MOST 1048576: true; the input reads as it did. -/
def sourceAllUptoRow : OpenClaim := { program := "ytcjdhajnaonpcaa", sum := "a710d00f677b013e1295a1bf3d28cd791c1625499afe796831b8dfed6cdc3781", func := "nostos/nostoslaw06.SourceAll", spec := "sourceAll", unfollowed := true, recurses := true, apart := false, narrowed := true }
def SourceAllUptoSaid : Prop := sourceAllUptoRow.holds Try.pinned (OpenSpec.upto sourceAllSpec)

/-- 'nostoslaw06.SourceLines', WHERE WHAT IT READS IS OF BULK AT MOST 1048576: true; the input reads as it did. -/
def sourceLinesUptoRow : OpenClaim := { program := "ytcjdhajnaonpcaa", sum := "a710d00f677b013e1295a1bf3d28cd791c1625499afe796831b8dfed6cdc3781", func := "nostos/nostoslaw06.SourceLines", spec := "sourceLines", unfollowed := true, recurses := true, apart := false, narrowed := true }
def SourceLinesUptoSaid : Prop := sourceLinesUptoRow.holds Try.pinned (OpenSpec.upto sourceLinesSpec)

end Rows
end Go.Proofs.Ytcjdhajnaonpcaa
