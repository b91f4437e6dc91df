/- A map of words by their names, made by a literal: what is in it, what is found. -/
import Derived.Test.YtobijdfnafnodaaGreatDoorAluWord
import Derived.Test.YtobijdfnafnodaaGreatDoorOpsMap
namespace Go.Proofs.YtobijdfnafnodaaGreatDoor
set_option maxRecDepth 100000
open Go.ChangeShapes Go.WideShapes Go.ChangeAt Go.RowKit
open Sk (Sl ints Own)
open On (bytesOk)
set_option linter.unusedVariables false

abbrev Phi := List Int → Except Int (List Int × List Int)
abbrev Tbl := List (List Int × Phi)
def lkp : Tbl → List Int → Option Phi
  | [], _ => none
  | (k, φ) :: l, f => if k = f then some φ else lkp l f
theorem lkp_mem {l : Tbl} {f : List Int} {φ : Phi} (hn : (l.map (·.1)).Nodup) (h : (f, φ) ∈ l) : lkp l f = some φ := by
  induction l with
  | nil => cases h
  | cons x l ih =>
    obtain ⟨k, ψ⟩ := x
    simp only [List.map_cons, List.nodup_cons] at hn
    rcases List.mem_cons.1 h with e | e
    · injection e with e1 e2
      subst e1; subst e2
      exact if_pos rfl
    · have hne : k ≠ f := fun q => hn.1 (by rw [q]; exact List.mem_map.2 ⟨_, e, rfl⟩)
      show (if k = f then some ψ else lkp l f) = some φ
      rw [if_neg hne]
      exact ih hn.2 e
theorem lkp_no {l : Tbl} {f : List Int} (h : ∀ x ∈ l, x.1 ≠ f) : lkp l f = none := by
  induction l with
  | nil => rfl
  | cons x l ih =>
    obtain ⟨k, ψ⟩ := x
    show (if k = f then some ψ else lkp l f) = none
    rw [if_neg (h (k, ψ) (.head _))]
    exact ih fun y hy => h y (.tail _ hy)

/-- a map's entries are these words -/
structure Ents (W : World) (es : List MapEntry) (l : Tbl) : Prop where
  len : es.length = l.length
  key : ∀ (i : Nat) (e : MapEntry) (x : List Int × Phi), es[i]? = some e → l[i]? = some x → e.key = .string (strOfNums x.1) ∧ WordIs W e.val x.2
  nodup : (l.map (·.1)).Nodup
  ok : ∀ x ∈ l, bytesOk x.1
theorem Ents.keep {W w : World} {es : List MapEntry} {l : Tbl} (h : Ents W es l) (hk : Keep W w) : Ents w es l :=
  ⟨h.len, fun i e x h1 h2 => ⟨(h.key i e x h1 h2).1, (h.key i e x h1 h2).2.keep hk⟩, h.nodup, h.ok⟩
theorem Ents.isKey {W : World} {es : List MapEntry} {l : Tbl} (h : Ents W es l) : ∀ e ∈ es, MapKept.IsKey .string e.key := by
  intro e he
  obtain ⟨i, hi⟩ := List.mem_iff_getElem?.1 he
  have hl : i < l.length := by rw [← h.len]; exact (List.getElem?_eq_some_iff.1 hi).1
  rw [(h.key i e _ hi (List.getElem?_eq_getElem hl)).1]
  trivial
theorem Ents.find {W : World} {es : List MapEntry} {l : Tbl} (h : Ents W es l) {f : List Int} (hf : bytesOk f) :
    (Instr.findNow .string (.string (strOfNums f)) es 0 = some none ∧ lkp l f = none) ∨ ∃ j F φ, Instr.findNow .string (.string (strOfNums f)) es 0 = some (some (j, F)) ∧ lkp l f = some φ ∧ WordIs W F φ := by
  rcases MapKept.findNow_spec (d := .string) (k := .string (strOfNums f)) trivial es 0 h.isKey with ⟨h1, h2⟩ | ⟨j, e, h1, h2, h3⟩
  · refine .inl ⟨h1, lkp_no fun x hx q => ?_⟩
    obtain ⟨i, hi⟩ := List.mem_iff_getElem?.1 hx
    have hl : i < es.length := by rw [h.len]; exact (List.getElem?_eq_some_iff.1 hi).1
    exact h2 _ (List.getElem_mem hl) ((h.key i _ x (List.getElem?_eq_getElem hl) hi).1.trans (by rw [q]))
  · have hl : j < l.length := by rw [← h.len]; exact (List.getElem?_eq_some_iff.1 h2).1
    obtain ⟨k1, k2⟩ := h.key j e _ h2 (List.getElem?_eq_getElem hl)
    have hm : l[j] ∈ l := List.getElem_mem hl
    have he : (l[j]).1 = f := On.str_inj (h.ok _ hm) hf (by
      rw [k1] at h3
      injection h3 with h3
      rw [h3])
    refine .inr ⟨0 + j, e.val, (l[j]).2, h1, lkp_mem h.nodup ?_, k2⟩
    rw [← he]
    exact hm
/-- the map at B holds these words -/
def MapIs (W : World) (B : Nat) (l : Tbl) : Prop := ∃ es c, W.heap[B]? = some (.map es c) ∧ Ents W es.toList l
theorem MapIs.lookup {W : World} {B : Nat} {l : Tbl} (h : MapIs W B l) {f : List Int} (hf : bytesOk f) :
    ((Instr.lookup 58 (.map (some B)) (.string (strOfNums f)) true).run Tryz.prog W = .ok (.tuple #[.nilFunc, .bool false]) W ∧ lkp l f = none) ∨
    ∃ F φ, (Instr.lookup 58 (.map (some B)) (.string (strOfNums f)) true).run Tryz.prog W = .ok (.tuple #[F, .bool true]) W ∧ lkp l f = some φ ∧ WordIs W F φ := by
  obtain ⟨es, c, hb, hE⟩ := h
  have hik : MapKept.IsKey .string (.string (strOfNums f)) := trivial
  have hz : (zeroValue 39).run Tryz.prog W = .ok .nilFunc W := by kernel_rfl
  rcases hE.find hf with ⟨h1, h2⟩ | ⟨j, F, φ, h1, h2, h3⟩
  · exact .inl ⟨by simp [Instr.lookup, run_underlying Tryz.underlying58, MapKept.run_getObj_map hb, MapKept.run_checkKey Tryz.underlying9 hik, MapKept.run_findKey Tryz.underlying9 h1, hz, Result.andThen], h2⟩
  · exact .inr ⟨F, φ, by simp [Instr.lookup, run_underlying Tryz.underlying58, MapKept.run_getObj_map hb, MapKept.run_checkKey Tryz.underlying9 hik, MapKept.run_findKey Tryz.underlying9 h1, Result.andThen], h2, h3⟩

/-- while it is made, from the world w0 on -/
structure Tab (w0 W : World) (l : Tbl) : Prop where
  below : Below w0.heap.size w0 W
  map : MapIs W w0.heap.size l
theorem Tab.begin (w0 : World) : Tab w0 (w0.alloc (.map #[] 0)) [] :=
  ⟨(Below.refl _ _).alloc (Nat.le_refl _) _, #[], 0, (MapKept.heap_alloc w0 _).1, rfl, fun i e x h1 h2 => (by simp at h1), List.nodup_nil, fun x hx => (by cases hx)⟩
theorem Tab.next {w0 W W' : World} {l : Tbl} {F : Value} {φ : Phi} (hT : Tab w0 W l) (hb : Below W.heap.size W W') (hF : WordIs W' F φ) (s : ByteArray) (key : List Int) (hs : s = strOfNums key)
    (hk : (l.all fun x => x.1 != key) = true) (hok : (key.all fun c => decide (0 ≤ c) && decide (c ≤ 255)) = true) :
    ∃ W2, (Instr.mapUpdate 58 (.map (some w0.heap.size)) (.string s) F).run Tryz.prog W' = .ok () W2 ∧ Tab w0 W2 (l ++ [(key, φ)]) := by
  subst hs
  obtain ⟨hB, es, c, hm, hE⟩ := hT
  have hlt : w0.heap.size < W.heap.size := (Array.getElem?_eq_some_iff.1 hm).1
  have hm' : W'.heap[w0.heap.size]? = some (.map es c) := (hb.block _ hlt).trans hm
  have hE' : Ents W' es.toList l := hE.keep (Keep.of hb)
  have hkn : ∀ x ∈ l, x.1 ≠ key := fun x hx => by
    have := List.all_eq_true.1 hk x hx
    simpa using this
  have hokk : bytesOk key := fun c hc => by
    have := List.all_eq_true.1 hok c hc
    simpa using this
  have hfresh : Instr.findNow .string (.string (strOfNums key)) es.toList 0 = some none := by
    rcases hE'.find hokk with ⟨h1, _⟩ | ⟨j, F, ψ, _, h2, _⟩
    · exact h1
    · rw [lkp_no hkn] at h2
      cases h2
  have hik : MapKept.IsKey .string (.string (strOfNums key)) := trivial
  have hkeep : Keep W' { W' with heap := W'.heap.setIfInBounds w0.heap.size (.map (es.push { key := .string (strOfNums key), val := F, born := c }) (c + 1)) } :=
    ⟨rfl, rfl, rfl, by simp, fun k a e z h => by
      have hne : k ≠ w0.heap.size := fun q => by rw [q, hm'] at h; cases h
      exact ((MapKept.heap_set hm').2 k hne).trans h⟩
  refine ⟨{ W' with heap := W'.heap.setIfInBounds w0.heap.size (.map (es.push { key := .string (strOfNums key), val := F, born := c }) (c + 1)) }, ?_, ⟨?_, es.push { key := .string (strOfNums key), val := F, born := c }, c + 1, (MapKept.heap_set hm').1, ?_⟩⟩
  · simp [Instr.mapUpdate, run_underlying Tryz.underlying58, MapKept.run_getObj_map hm', MapKept.run_checkKey Tryz.underlying9 hik, MapKept.run_findKey Tryz.underlying9 hfresh, MapKept.run_setObj_map _ hm', Result.andThen]
  · have hB' := hB.trans (hb.mono (Nat.le_of_lt hlt))
    exact ⟨hB'.os, hB'.tape, hB'.output, by simpa using hB'.size, fun k hk => ((MapKept.heap_set hm').2 k (Nat.ne_of_lt hk)).trans (hB'.block k hk)⟩
  · have hl := hE'.len
    refine ⟨by simp at hl ⊢; exact hl, fun i e x h1 h2 => ?_, ?_, ?_⟩
    · simp only [Array.toList_push] at h1
      by_cases hi : i < es.toList.length
      · rw [List.getElem?_append_left hi] at h1
        rw [List.getElem?_append_left (by rw [← hl]; exact hi)] at h2
        exact ⟨(hE'.key i e x h1 h2).1, (hE'.key i e x h1 h2).2.keep hkeep⟩
      · rw [List.getElem?_append_right (by omega)] at h1
        rw [List.getElem?_append_right (by omega)] at h2
        rw [← hl] at h2
        obtain h0 | h0 : i - es.toList.length = 0 ∨ ¬ i - es.toList.length = 0 := by omega
        · rw [h0] at h1 h2
          simp only [List.getElem?_cons_zero, Option.some.injEq] at h1 h2
          subst h1; subst h2
          exact ⟨rfl, hF.keep hkeep⟩
        · rw [List.getElem?_eq_none (by simp only [List.length_singleton]; omega)] at h1
          cases h1
    · rw [List.map_append, List.nodup_append]
      refine ⟨hE'.nodup, by simp, fun a ha b hb q => ?_⟩
      obtain ⟨x, hx, rfl⟩ := List.mem_map.1 ha
      simp only [List.map_cons, List.map_nil, List.mem_singleton] at hb
      exact hkn x hx (q.trans hb)
    · intro x hx
      rcases List.mem_append.1 hx with h | h
      · exact hE'.ok x h
      · simp only [List.mem_singleton] at h
        subst h
        exact hokk
theorem make_map (w : World) : (Instr.makeMap 58 none).run Tryz.prog w = .ok (.map (some w.heap.size)) (w.alloc (.map #[] 0)) := by kernel_rfl
end Go.Proofs.YtobijdfnafnodaaGreatDoor
