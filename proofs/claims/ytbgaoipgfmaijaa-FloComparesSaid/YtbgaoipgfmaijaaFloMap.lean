/- The maps of functions that flo.ofTwo and flo.ofOne make: what is in them, and what is found. -/
import Derived.Test.YtbgaoipgfmaijaaFloOps
import Derived.Carry
namespace Go.Proofs.Ytbgaoipgfmaijaa
open Go.ChangeShapes Go.WideShapes Go.ChangeAt Go.RowKit
set_option linter.unusedVariables false

theorem set_last (w : World) (o p : Obj) : { (w.alloc o) with heap := (w.alloc o).heap.setIfInBounds w.heap.size p } = w.alloc p := by
  have e : (w.alloc o).heap = w.heap.push o := rfl
  have e2 : (w.heap.push o).setIfInBounds w.heap.size p = w.heap.push p := by
    apply Array.ext_getElem?
    intro i
    rw [Array.getElem?_setIfInBounds, Array.getElem?_push, Array.getElem?_push, Array.size_push]
    by_cases h : w.heap.size = i
    · subst h; simp
    · rw [if_neg h, if_neg (Ne.symm h), if_neg (Ne.symm h)]
  rw [e, e2]; rfl
theorem run_insert {P : Program} {T K E : TypeId} (hT : P.underlying T = some (.map K E)) (hK : P.underlying K = some (.int .u8)) (es : Array MapEntry) (clock : Nat) (k : Int) (v : Value)
    (hk : Instr.findNow (.int .u8) (.int .u8 k) es.toList 0 = some none) (w : World) :
    (Instr.mapUpdate T (.map (some w.heap.size)) (.int .u8 k) v).run P (w.alloc (.map es clock)) = .ok () (w.alloc (.map (es.push { key := .int .u8 k, val := v, born := clock }) (clock + 1))) := by
  have hb := (MapKept.heap_alloc w (.map es clock)).1
  have hik : MapKept.IsKey (.int .u8) (.int .u8 k) := rfl
  have h2 := set_last w (.map es clock) (.map (es.push { key := .int .u8 k, val := v, born := clock }) (clock + 1))
  simp [Instr.mapUpdate, run_underlying hT, MapKept.run_getObj_map hb, MapKept.run_checkKey hK hik, MapKept.run_findKey hK hk, MapKept.run_setObj_map _ hb, Result.andThen]
  exact h2
theorem run_find {P : Program} {T K E : TypeId} (hT : P.underlying T = some (.map K E)) (hK : P.underlying K = some (.int .u8)) (es : Array MapEntry) (clock : Nat) (k : Int) (v : Value) (i : Nat)
    (hk : Instr.findNow (.int .u8) (.int .u8 k) es.toList 0 = some (some (i, v))) (b : Nat) (w : World) (hb : w.heap[b]? = some (.map es clock)) :
    (Instr.lookup T (.map (some b)) (.int .u8 k) true).run P w = .ok (.tuple #[v, .bool true]) w := by
  have hik : MapKept.IsKey (.int .u8) (.int .u8 k) := rfl
  simp [Instr.lookup, run_underlying hT, MapKept.run_getObj_map hb, MapKept.run_checkKey hK hik, MapKept.run_findKey hK hk, Result.andThen]
theorem run_find_no {P : Program} {T K E : TypeId} (hT : P.underlying T = some (.map K E)) (hK : P.underlying K = some (.int .u8)) (es : Array MapEntry) (clock : Nat) (k : Int) (z : Value) (hz : ∀ w, (zeroValue E).run P w = .ok z w)
    (hk : Instr.findNow (.int .u8) (.int .u8 k) es.toList 0 = some none) (b : Nat) (w : World) (hb : w.heap[b]? = some (.map es clock)) :
    (Instr.lookup T (.map (some b)) (.int .u8 k) true).run P w = .ok (.tuple #[z, .bool false]) w := by
  have hik : MapKept.IsKey (.int .u8) (.int .u8 k) := rfl
  simp [Instr.lookup, run_underlying hT, MapKept.run_getObj_map hb, MapKept.run_checkKey hK hik, MapKept.run_findKey hK hk, hz, Result.andThen]

def tw0 : MapEntry := { key := .int .u8 43, val := .func (Fn.func 35) #[] #[], born := 0 }
def tw1 : MapEntry := { key := .int .u8 45, val := .func (Fn.func 36) #[] #[], born := 1 }
def tw2 : MapEntry := { key := .int .u8 42, val := .func (Fn.func 37) #[] #[], born := 2 }
def tw3 : MapEntry := { key := .int .u8 47, val := .func (Fn.func 38) #[] #[], born := 3 }
def tw4 : MapEntry := { key := .int .u8 109, val := .func (Fn.func 39) #[] #[], born := 4 }
def tw5 : MapEntry := { key := .int .u8 77, val := .func (Fn.func 40) #[] #[], born := 5 }
def twoES : Array MapEntry := #[tw0, tw1, tw2, tw3, tw4, tw5]
theorem oftwo_any (w : World) :
    Calls Try.prog 24 #[] w fun e w' => e = .returned (.map (some w.heap.size)) ∧ w.alloc (.map twoES 6) = w' := by
  have hmm := @run_makeMap Try.prog
  have h0 : ∀ w : World, (Instr.mapUpdate 36 (.map (some w.heap.size)) (.int .u8 43) (.func (Fn.func 35) #[] #[])).run Try.prog (w.alloc (.map #[] 0)) = .ok () (w.alloc (.map #[tw0] 1)) := fun w => run_insert Try.underlying36 Try.underlying5 #[] 0 43 _ rfl w
  have h1 : ∀ w : World, (Instr.mapUpdate 36 (.map (some w.heap.size)) (.int .u8 45) (.func (Fn.func 36) #[] #[])).run Try.prog (w.alloc (.map #[tw0] 1)) = .ok () (w.alloc (.map #[tw0, tw1] 2)) := fun w => run_insert Try.underlying36 Try.underlying5 #[tw0] 1 45 _ rfl w
  have h2 : ∀ w : World, (Instr.mapUpdate 36 (.map (some w.heap.size)) (.int .u8 42) (.func (Fn.func 37) #[] #[])).run Try.prog (w.alloc (.map #[tw0, tw1] 2)) = .ok () (w.alloc (.map #[tw0, tw1, tw2] 3)) := fun w => run_insert Try.underlying36 Try.underlying5 #[tw0, tw1] 2 42 _ rfl w
  have h3 : ∀ w : World, (Instr.mapUpdate 36 (.map (some w.heap.size)) (.int .u8 47) (.func (Fn.func 38) #[] #[])).run Try.prog (w.alloc (.map #[tw0, tw1, tw2] 3)) = .ok () (w.alloc (.map #[tw0, tw1, tw2, tw3] 4)) := fun w => run_insert Try.underlying36 Try.underlying5 #[tw0, tw1, tw2] 3 47 _ rfl w
  have h4 : ∀ w : World, (Instr.mapUpdate 36 (.map (some w.heap.size)) (.int .u8 109) (.func (Fn.func 39) #[] #[])).run Try.prog (w.alloc (.map #[tw0, tw1, tw2, tw3] 4)) = .ok () (w.alloc (.map #[tw0, tw1, tw2, tw3, tw4] 5)) := fun w => run_insert Try.underlying36 Try.underlying5 #[tw0, tw1, tw2, tw3] 4 109 _ rfl w
  have h5 : ∀ w : World, (Instr.mapUpdate 36 (.map (some w.heap.size)) (.int .u8 77) (.func (Fn.func 40) #[] #[])).run Try.prog (w.alloc (.map #[tw0, tw1, tw2, tw3, tw4] 5)) = .ok () (w.alloc (.map #[tw0, tw1, tw2, tw3, tw4, tw5] 6)) := fun w => run_insert Try.underlying36 Try.underlying5 #[tw0, tw1, tw2, tw3, tw4] 5 77 _ rfl w
  go_enter Try.func24, Try.ntmps24
  go_wp2
  go_ret
  exact ⟨rfl, rfl⟩
end Go.Proofs.Ytbgaoipgfmaijaa
