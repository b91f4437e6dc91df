/- The map of all names and their numbers that ops.numbers makes; what ops.Find finds in it. -/
import Derived.Test.YtkjokgjjpoocgaaDoorOpsOne
import Derived.Test.YtkjokgjjpoocgaaDoorNamFold
import Derived.Carry
import Derived.MapKept
namespace Go.Proofs.YtkjokgjjpoocgaaDoor.On
set_option maxRecDepth 100000
open Go.ChangeShapes Go.WideShapes Go.RowKit
set_option linter.unusedVariables false

/-- the first k names' entries -/
def ent (m : Nat) : MapEntry := { key := .string (strOfNums (nmN m)), val := .int .i64 ((m : Int) + 1), born := m }
def ents (k : Nat) : Array MapEntry := ((List.range k).map ent).toArray
theorem ents_next (k : Nat) : (ents k).push (ent k) = ents (k + 1) := by
  simp [ents, List.range_succ]
theorem ents_key (k : Nat) : ∀ x ∈ (ents k).toList, MapKept.IsKey .string x.key := by
  intro x hx
  simp only [ents, List.mem_map] at hx
  obtain ⟨m, _, rfl⟩ := hx
  trivial
theorem ents_get {k j : Nat} {e : MapEntry} (h : (ents k).toList[j]? = some e) : j < k ∧ e = ent j := by
  simp only [ents, List.getElem?_map, Option.map_eq_some_iff] at h
  obtain ⟨m, hm, rfl⟩ := h
  obtain ⟨hj, rfl⟩ := List.getElem?_eq_some_iff.1 hm
  simp at hj ⊢
  exact hj
theorem ents_find {f : List Int} (hf : bytesOk f) : ∃ r, Instr.findNow .string (.string (strOfNums f)) (ents 137).toList 0 = some r ∧ ((r = none ∧ ix f = 0) ∨ ∃ j, r = some (j, .int .i64 (ix f))) := by
  rcases MapKept.findNow_spec (d := .string) (k := .string (strOfNums f)) trivial (ents 137).toList 0 (ents_key 137) with ⟨h1, h2⟩ | ⟨j, e, h1, h2, h3⟩
  · refine ⟨_, h1, .inl ⟨rfl, ?_⟩⟩
    rcases ix_cases f with ⟨h0, _⟩ | ⟨m, hm, rfl, _⟩
    · exact h0
    · exact absurd rfl (h2 (ent m) (by simp only [ents, List.mem_map]; exact ⟨m, by simp [hm], rfl⟩))
  · obtain ⟨hj, rfl⟩ := ents_get h2
    refine ⟨_, h1, .inr ⟨0 + j, ?_⟩⟩
    have he : nmN j = f := str_inj (nmN_ok hj) hf (by
      have : strOfNums (nmN j) = strOfNums f := by injection h3
      rw [this])
    rw [← he, ix_at hj]
    rfl
theorem ents_fresh {k : Nat} (hk : k < 137) : Instr.findNow .string (.string (strOfNums (nmN k))) (ents k).toList 0 = some none := by
  rcases MapKept.findNow_spec (d := .string) (k := .string (strOfNums (nmN k))) trivial (ents k).toList 0 (ents_key k) with ⟨h1, h2⟩ | ⟨j, e, h1, h2, h3⟩
  · exact h1
  · exfalso
    obtain ⟨hj, rfl⟩ := ents_get h2
    have he : nmN j = nmN k := str_inj (nmN_ok (by omega)) (nmN_ok hk) (by
      have : strOfNums (nmN j) = strOfNums (nmN k) := by injection h3
      rw [this])
    have := nmN_inj (by omega) hk he
    omega

theorem set_last (w : World) (o p : Obj) : { (w.alloc o) with heap := (w.alloc o).heap.setIfInBounds w.heap.size p } = w.alloc p := by
  have e : (w.alloc o).heap = w.heap.push o := rfl
  have e2 : (w.heap.push o).setIfInBounds w.heap.size p = w.heap.push p := by
    apply Array.ext_getElem?
    intro i
    rw [Array.getElem?_setIfInBounds, Array.getElem?_push, Array.getElem?_push, Array.size_push]
    by_cases h : w.heap.size = i
    · subst h; simp
    · rw [if_neg h, if_neg (Ne.symm h), if_neg (Ne.symm h)]
  rw [e, e2]; rfl
theorem index_words {m : Nat} (h : m < 137) (W : World) : (Instr.index 72 (.agg WA) (.int .i64 (m : Int))).run Tryd.prog W = .ok (.string (strOfNums (nmN m))) W := by
  have hz : (sizeOf 9).run Tryd.prog W = .ok 1 W := by kernel_rfl
  have ha : (isAgg 9).run Tryd.prog W = .ok false W := by kernel_rfl
  have hg := WA_get h
  simp [Instr.index, asIntOf, run_underlying Tryd.underlying72, hz, part, ha, hg, h, Result.andThen]

end Go.Proofs.YtkjokgjjpoocgaaDoor.On
