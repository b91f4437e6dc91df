/- A variable of the call's own that holds a struct of one-cell fields: its block, whole; its cells; what is stored there. No function of the program is named here. -/
import Derived.Test.YtcjbfokindoicaaDoorRows
import Derived.Test.YtcjbfokindoicaaDoorBelow
import Derived.WalkKit
import Derived.ProofKit
import Derived.Below
import Derived.Laws.Rows
import Derived.Great.BuildSlice
namespace Go.Proofs.YtcjbfokindoicaaDoor
set_option maxRecDepth 100000
open Go.ChangeShapes Go.WideShapes Go.ChangeAt Go.RowKit
set_option linter.unusedVariables false

/-- block b is the cells cs, and may be written -/
def Bx (w : World) (b : Nat) (T : TypeId) (cs : Array Value) : Prop := w.heap[b]? = some (.cells cs T (0, 0))
theorem Bx.lt {w : World} {b : Nat} {T : TypeId} {cs : Array Value} (h : Bx w b T cs) : b < w.heap.size := (Array.getElem?_eq_some_iff.1 h).1
theorem Bx.new (w : World) (T : TypeId) (cs : Array Value) : Bx (w.alloc (.cells cs T)) w.heap.size T cs := heap_alloc_new w _
theorem Bx.below {w w' : World} {b B : Nat} {T : TypeId} {cs : Array Value} (h : Bx w b T cs) (hb : Below B w w') (hB : b < B) : Bx w' b T cs := (hb.block _ hB).trans h
theorem Bx.alloc {w : World} {b : Nat} {T : TypeId} {cs : Array Value} (h : Bx w b T cs) (o : Obj) : Bx (w.alloc o) b T cs := h.below ((Below.refl w.heap.size w).alloc (Nat.le_refl _) o) h.lt
theorem Bx.cell {w : World} {b : Nat} {T : TypeId} {cs : Array Value} (h : Bx w b T cs) (i : Nat) {v : Value} (hv : cs[i]? = some v) : w.cell? ⟨b, i, none⟩ = some v := by
  unfold World.cell?
  rw [h]
  exact hv
theorem Bx.free {w : World} {b : Nat} {T : TypeId} {cs : Array Value} (h : Bx w b T cs) (i : Nat) : w.frozen? ⟨b, i, none⟩ = false := by
  unfold World.frozen?
  rw [h]
  simp
theorem Bx.set {w : World} {b : Nat} {T : TypeId} {cs : Array Value} (h : Bx w b T cs) (i : Nat) (v : Value) : Bx (w.setCell ⟨b, i, none⟩ v) b T (cs.setIfInBounds i v) := by
  unfold Bx World.setCell at *
  rw [Array.getElem?_modify, if_pos rfl, h]
  simp
theorem Bx.setOther {w : World} {b : Nat} {T : TypeId} {cs : Array Value} (h : Bx w b T cs) (p : Addr) (v : Value) (hp : p.block ≠ b) : Bx (w.setCell p v) b T cs := by
  unfold Bx World.setCell at *
  rw [Array.getElem?_modify, if_neg hp]
  exact h
theorem Bx.row {w : World} {b : Nat} {T : TypeId} {cs : Array Value} (h : Bx w b T cs) (ds : Array Value) : Bx (w.setRow b ds) b T ds := setRow_heap w b cs ds T (0, 0) h
theorem Bx.rowOther {w : World} {b g : Nat} {T : TypeId} {cs : Array Value} (h : Bx w b T cs) (ds : Array Value) (hg : b ≠ g) : Bx (w.setRow g ds) b T cs := (setRow_other w g b ds hg).trans h
theorem Bx.drew {w : World} {b : Nat} {T : TypeId} {cs : Array Value} (h : Bx w b T cs) : Bx w.drew b T cs := h
/-- two results: a variable that holds a struct, and a slot -/
theorem results_row2 {P : Program} {fn : Func} {p q : Tmp} {ty : TypeId} (h : fn.results = #[.cell p ty, .tmp q]) (tmps : Array Value) (w : World) (g : Nat) (t : TypeId) (cs : Array Value) (d : TypeDesc) (v : Value)
    (hp : tmps.getD p undef = .pointer (some ⟨g, 0, none⟩)) (hq : tmps.getD q undef = v) (hg : Bx w g t cs)
    (hu : P.underlying ty = some d) (hd : (match d with | .struct _ | .array _ _ => true | _ => false) = true) (hi : (P.info? ty).map (·.size) = some cs.size) :
    (results fn tmps).run P w = .ok (.tuple #[.agg cs, v]) w := by
  have hp' : tmps[p]?.getD undef = .pointer (some ⟨g, 0, none⟩) := by simpa using hp
  have hq' : tmps[q]?.getD undef = v := by simpa using hq
  simp [results, h, hp', hq', asAddr, run_loadVar_row w g t ty cs (0, 0) d hg hu hd hi]
end Go.Proofs.YtcjbfokindoicaaDoor
