/- A slice of bytes as a list of numbers, wherever it lies: it stays so where nothing below has turned; as a string; cut. -/
import Derived.Test.YtcjbfokindoicaaDoorRows
import Derived.Test.YtcjbfokindoicaaDoorMemMath
import Derived.Test.YtcjbfokindoicaaDoorBelow
import Derived.WalkKit
import Derived.ProofKit
import Derived.OpenShut
import Derived.Laws.BytesArg
import Derived.Laws.Slices
import Derived.Below
namespace Go.Proofs.YtcjbfokindoicaaDoor.Me
set_option maxRecDepth 100000
open Go.ChangeShapes Go.WideShapes Go.ChangeAt Go.RowKit

/-- the slice reads as the numbers xs, each a byte's -/
structure Mem (w : World) (a : Option Addr) (n c : Nat) (xs : List Int) : Prop where
  len : xs.length = n
  cap : n ≤ c
  big : c ≤ maxLen
  ok : byteOk xs
  isnil : a = none → c = 0
  cells : 0 < n → ∃ b o, a = some ⟨b, o, none⟩ ∧ ∀ i, i < n → w.cell? ⟨b, o + i, none⟩ = some (.int .u8 (xs.getD i 0))

theorem Mem.below {w w' : World} {a : Option Addr} {n c : Nat} {xs : List Int} (h : Mem w a n c xs) (hb : Below w.heap.size w w') : Mem w' a n c xs :=
  ⟨h.len, h.cap, h.big, h.ok, h.isnil, fun hn => by
    obtain ⟨b, o, rfl, hc⟩ := h.cells hn
    refine ⟨b, o, rfl, fun i hi => ?_⟩
    have hlt := World.block_lt_of_cell? _ _ (hc i hi)
    rw [hb.cell (p := ⟨b, o + i, none⟩) hlt]
    exact hc i hi⟩

theorem Mem.zero (w : World) : Mem w none 0 0 [] :=
  ⟨rfl, Nat.le_refl _, Nat.zero_le _, fun _ h => (by cases h), fun _ => rfl, fun h => absurd h (Nat.lt_irrefl _)⟩

theorem Mem.bd {w : World} {a : Option Addr} {n c : Nat} {xs : List Int} (h : Mem w a n c xs) : (n : Int) ≤ 9223372036854775807 ∧ (c : Int) ≤ 9223372036854775807 ∧ n ≤ c := by
  have h1 := h.cap
  have h2 := h.big
  unfold maxLen at h2
  omega

/-- as a string -/
theorem Mem.str {P : Program} {w : World} {a : Option Addr} {n c : Nat} {xs : List Int} (h : Mem w a n c xs) (src e dst : TypeId) (hs : P.underlying src = some (.slice e)) (he : P.underlying e = some (.int .u8)) (hd : P.underlying dst = some .string) :
    (convert src dst (.slice a n c)).run P w = .ok (.string (strOfNums xs)) w := by
  by_cases hn : 0 < n
  · obtain ⟨b, o, rfl, hc⟩ := h.cells hn
    exact run_convert_bytes_arg w src e hs he b o n c xs h.len hc dst hd
  · have h0 : n = 0 := by omega
    have hx : xs = [] := List.eq_nil_of_length_eq_zero (by rw [h.len, h0])
    subst h0; subst hx
    rw [run_convert_bytes_string w src dst e _ 0 c hs he hd]
    cases a <;> simp [Conv.bytesToString, loadCells, strOfNums]
    all_goals rfl

/-- cut -/
theorem Mem.cut {P : Program} {w : World} {a : Option Addr} {n c : Nat} {xs : List Int} (h : Mem w a n c xs) (t e : TypeId) (ht : P.underlying t = some (.slice e)) (hz : ∀ w, (Go.sizeOf e).run P w = .ok 1 w) (k m : Nat) (hkm : k + m ≤ n) :
    ∃ a', (∀ W, (Instr.slice t (.slice a n c) (some (.int .i64 (k : Int))) (some (.int .i64 ((k : Int) + (m : Int)))) none).run P W = .ok (.slice a' m (c - k)) W) ∧ Mem w a' m (c - k) ((xs.drop k).take m) := by
  have hnc := h.cap
  refine ⟨if c = k then a else a.map (·.add (k * 1)), fun W => ?_, ?_⟩
  · have ht' : P.underlying t = some (.slice (P.elem t)) := by simp [Program.elem, ht]
    have he : P.elem t = e := by simp [Program.elem, ht]
    rw [run_slice_lh W t _ _ _ ht' .i64 .i64 _ _ (by omega) (by omega) (by omega), he, hz]
    have e1 : ((k : Int) + (m : Int)).toNat - k = m := by omega
    have e2 : (k : Int).toNat = k := by omega
    simp only [Result.andThen, sliced, e2, e1]
  · refine ⟨by simp [h.len]; omega, by omega, by have := h.big; omega, fun x hx => h.ok x (List.mem_of_mem_drop (List.mem_of_mem_take hx)), fun ha => ?_, fun hm => ?_⟩
    · split at ha
      · omega
      · have : a = none := by cases a <;> simp_all
        have := h.isnil this
        omega
    · obtain ⟨b, o, rfl, hc⟩ := h.cells (by omega)
      rw [if_neg (by omega)]
      refine ⟨b, o + k, by simp [add_plain], fun i hi => ?_⟩
      have := hc (k + i) (by omega)
      rw [Nat.add_assoc, this]
      simp [List.getD, hi]
end Go.Proofs.YtcjbfokindoicaaDoor.Me
