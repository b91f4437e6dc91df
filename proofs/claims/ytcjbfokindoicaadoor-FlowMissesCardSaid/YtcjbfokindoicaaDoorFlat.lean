/- Slices of structs of one-cell fields, as lists of any kind: each element's cells one behind the other. No program is named here. -/
import Derived.Test.YtcjbfokindoicaaDoorFields
import Derived.Test.YtcjbfokindoicaaDoorAgg
import Derived.Test.YtcjbfokindoicaaDoorSz
namespace Go.Proofs.YtcjbfokindoicaaDoor.On
set_option maxRecDepth 100000
open Go.ChangeShapes Go.WideShapes Go.RowKit Go.Deep
set_option linter.unusedVariables false

section
variable {α : Type} {f : α → List Value} {s : Nat}
theorem fl_len (hf : ∀ x, (f x).length = s) (l : List α) : (l.flatMap f).length = l.length * s := by
  induction l with
  | nil => simp
  | cons x l ih => rw [List.flatMap_cons, List.length_append, hf, ih, List.length_cons, Nat.succ_mul]; omega
theorem fl_take (hf : ∀ x, (f x).length = s) (l : List α) (k : Nat) : (l.flatMap f).take (k * s) = (l.take k).flatMap f := by
  by_cases h : k ≤ l.length
  · have e : l.flatMap f = (l.take k).flatMap f ++ (l.drop k).flatMap f := by rw [← List.flatMap_append, List.take_append_drop]
    rw [e, List.take_left' (by rw [fl_len hf, List.length_take, Nat.min_eq_left h])]
  · rw [List.take_of_length_le (l := l) (by omega), List.take_of_length_le (by rw [fl_len hf]; exact Nat.mul_le_mul_right _ (by omega))]
theorem fl_drop (hf : ∀ x, (f x).length = s) (l : List α) (k : Nat) : (l.flatMap f).drop (k * s) = (l.drop k).flatMap f := by
  by_cases h : k ≤ l.length
  · have e : l.flatMap f = (l.take k).flatMap f ++ (l.drop k).flatMap f := by rw [← List.flatMap_append, List.take_append_drop]
    rw [e, List.drop_left' (by rw [fl_len hf, List.length_take, Nat.min_eq_left h])]
  · rw [List.drop_of_length_le (l := l) (by omega), List.drop_of_length_le (by rw [fl_len hf]; exact Nat.mul_le_mul_right _ (by omega))]
    rfl
theorem fl_at (hf : ∀ x, (f x).length = s) (l : List α) {i : Nat} (h : i < l.length) : ((l.flatMap f).drop (i * s)).take s = f l[i] := by
  rw [fl_drop hf, List.drop_eq_getElem_cons h, List.flatMap_cons, List.take_left' (hf _)]
theorem fl_get (hf : ∀ x, (f x).length = s) (l : List α) {i j : Nat} (h : i < l.length) (hj : j < s) : (l.flatMap f)[i * s + j]? = (f l[i])[j]? := by
  rw [← fl_at hf l h, List.getElem?_take_of_lt hj, List.getElem?_drop]
end

/-- a slice's header -/
structure Sc where
  a : Option Addr
  n : Nat
  c : Nat
abbrev Sc.val (x : Sc) : Value := .slice x.a x.n x.c
abbrev Sc.none : Sc := ⟨.none, 0, 0⟩
/-- the slice reads as the list l -/
def Fl {α : Type} (f : α → List Value) (s : Nat) (w : World) (x : Sc) (l : List α) : Prop := Sz w s x.a x.n x.c (l.flatMap f)
theorem Fl.below {α : Type} {f : α → List Value} {s : Nat} {w w' : World} {x : Sc} {l : List α} (h : Fl f s w x l) (hb : Below w.heap.size w w') : Fl f s w' x l := Sz.below h hb
theorem Fl.zero {α : Type} (f : α → List Value) (s : Nat) (w : World) : Fl f s w Sc.none [] := Sz.zero w s
theorem Fl.len {α : Type} {f : α → List Value} {s : Nat} {w : World} {x : Sc} {l : List α} (h : Fl f s w x l) (hf : ∀ x, (f x).length = s) (hs : 0 < s) : l.length = x.n := by
  have := Sz.len h
  rw [fl_len hf] at this
  exact Nat.eq_of_mul_eq_mul_right hs this
theorem Fl.bd {α : Type} {f : α → List Value} {s : Nat} {w : World} {x : Sc} {l : List α} (h : Fl f s w x l) : (x.n : Int) ≤ 9223372036854775807 ∧ (x.c : Int) ≤ 9223372036854775807 ∧ x.n ≤ x.c := Sz.bd h
/-- one cell of one element -/
theorem Fl.cell {α : Type} {f : α → List Value} {s : Nat} {w : World} {x : Sc} {l : List α} (h : Fl f s w x l) (hf : ∀ x, (f x).length = s) {i j : Nat} (hi : i < l.length) {v : Value} (hv : (f l[i])[j]? = some v) : ∃ b o, x.a = some ⟨b, o, .none⟩ ∧ ∀ j v, (f l[i])[j]? = some v → w.cell? ⟨b, o + (i * s + j), .none⟩ = some v := by
  have hjs : ∀ j v, (f l[i])[j]? = some v → j < s := fun j v h => by
    have := (List.getElem?_eq_some_iff.1 h).1
    rwa [hf] at this
  have hj := hjs _ _ hv
  have hn : 0 < x.n := by
    have := Sz.len h
    rw [fl_len hf] at this
    rcases Nat.eq_zero_or_pos x.n with h0 | h0
    · rw [h0, Nat.zero_mul] at this
      have := Nat.mul_pos (Nat.lt_of_le_of_lt (Nat.zero_le _) hi) (Nat.lt_of_le_of_lt (Nat.zero_le _) hj)
      omega
    · exact h0
  obtain ⟨b, o, ha, hr⟩ := Sz.cells h hn
  exact ⟨b, o, ha, fun j v hv => hr _ _ (by rw [fl_get hf l hi (hjs _ _ hv)]; exact hv)⟩

section
variable {H : Type} {enc : TypeId × Value → H} {P : Program} {W : World} {base : Nat} {sp : Nat → Bool} {held : Bool}
theorem open_flat {α : Type} [Inhabited α] {f : α → List Value} {s : Nat} (hf : ∀ x, (f x).length = s) (good : α → Prop) {t e : TypeId} {fs : Array Field} {fuel : Nat} {u : Value} {y : DataW H × List MemPlace}
    (ht : P.underlying t = some (.slice e)) (he : P.underlying e = some (.struct fs)) (hone : oneCellFields P fs = true) (hC : P.cellsOf e = fs.size) (hs : fs.size = s) (hs0 : 0 < s)
    (hel : ∀ (a : Addr) (m : Nat), (∀ (j : Nat) (fld : Field), fs[j]? = some fld → ∃ (v : Value) (z : DataW H × List MemPlace), W.cell? (a.add j) = some v ∧ DataW.trod enc P W base sp held m fld.type [v] = some z) → ∃ x, good x ∧ ∀ j v, (f x)[j]? = some v → W.cell? (a.add j) = some v)
    (h : DataW.trod enc P W base sp held fuel t [u] = some y) : ∃ (x : Sc) (l : List α), u = x.val ∧ Fl f s W x l ∧ ∀ z ∈ l, good z := by
  rcases open_rows ht he hone hC h with hcs | ⟨a, n, c, hcs, hl, hm, hi⟩
  · obtain rfl : u = .slice .none 0 0 := by simpa using hcs
    exact ⟨Sc.none, [], rfl, Fl.zero f s W, by simp⟩
  · obtain rfl : u = .slice (some a) n c := by simpa using hcs
    have hx : ∀ i, i < n → ∃ x : α, good x ∧ ∀ j v, (f x)[j]? = some v → W.cell? (a.add (i * s + j)) = some v := by
      intro i hin
      obtain ⟨m, hm⟩ := hi i hin
      obtain ⟨x, hg, hx⟩ := hel (a.add (i * s)) m (fun j fld hj => by
        obtain ⟨v, z, hc, ht⟩ := hm j fld hj
        exact ⟨v, z, by rw [Go.Deep.add_add, ← hs]; exact hc, ht⟩)
      exact ⟨x, hg, fun j v hv => by rw [← Go.Deep.add_add]; exact hx j v hv⟩
    obtain ⟨g, hg⟩ := choose_lt hx
    have hlen : ((List.range n).map g).length = n := by simp
    refine ⟨⟨some a, n, c⟩, (List.range n).map g, rfl, ⟨by rw [fl_len hf, hlen], hl, hm, fun h => (by cases h), fun hn => ?_⟩, fun z hz => ?_⟩
    · obtain ⟨bb, oo, ss⟩ := a
      have h0 : ∃ v, (f (g 0))[0]? = some v := ⟨_, List.getElem?_eq_getElem (by rw [hf]; exact hs0)⟩
      obtain ⟨v0, hv0⟩ := h0
      have h1 := (hg 0 hn).2 0 v0 hv0
      obtain rfl : ss = .none := by simpa [Addr.add] using World.cell?_spot h1
      refine ⟨bb, oo, rfl, fun j v hv => ?_⟩
      have hj : j < n * s := by
        have := (List.getElem?_eq_some_iff.1 hv).1
        rwa [fl_len hf, hlen] at this
      have hi : j / s < n := Nat.div_lt_of_lt_mul (by rw [Nat.mul_comm]; exact hj)
      have hr : j % s < s := Nat.mod_lt _ hs0
      have e : j / s * s + j % s = j := by rw [Nat.mul_comm]; exact Nat.div_add_mod j s
      rw [← e, fl_get hf _ (by rw [hlen]; exact hi) hr] at hv
      simp only [List.getElem_map, List.getElem_range] at hv
      have := (hg _ hi).2 _ _ hv
      rw [Addr.add_mid, e] at this
      exact this
    · obtain ⟨i, hi, rfl⟩ := List.mem_map.1 hz
      exact (hg i (by simpa using hi)).1
/-- integers of one kind -/
def one (k : IntKind) (x : Int) : List Value := [.int k x]
theorem open_flat_ints {t e : TypeId} {k : IntKind} {fuel : Nat} {u : Value} {y : DataW H × List MemPlace} (ht : P.underlying t = some (.slice e)) (he : P.underlying e = some (.int k)) (hc : P.cellsOf e = 1)
    (h : DataW.trod enc P W base sp held fuel t [u] = some y) : ∃ (x : Sc) (l : List Int), u = x.val ∧ Fl (one k) 1 W x l ∧ ∀ z ∈ l, (Lit.int k z).wf = true := by
  rcases open_ints ht he hc h with ⟨hcs, _⟩ | ⟨a, n, c, zs, hcs, _, hl, hm, hz, _, hcell, hwz⟩
  · obtain rfl : u = .slice .none 0 0 := by simpa using hcs
    exact ⟨Sc.none, [], rfl, Fl.zero _ 1 W, by simp⟩
  · obtain rfl : u = .slice (some a) n c := by simpa using hcs
    have hzn : n ≤ zs.length := by rw [hz]; split <;> omega
    have hfl : ∀ l : List Int, l.flatMap (one k) = l.map (Value.int k) := fun l => by
      induction l with
      | nil => rfl
      | cons x l ih => rw [List.flatMap_cons, ih]; rfl
    refine ⟨⟨some a, n, c⟩, zs.take n, rfl, ⟨by rw [hfl]; simp; omega, hl, hm, fun h => (by cases h), fun hn => ?_⟩, fun z hz => hwz z (List.mem_of_mem_take hz)⟩
    have hn' : 0 < n := hn
    obtain ⟨bb, oo, ss⟩ := a
    obtain rfl : ss = .none := by simpa [Addr.add] using World.cell?_spot (hcell 0 (by omega))
    refine ⟨bb, oo, rfl, fun i v hi => ?_⟩
    rw [hfl, List.getElem?_map] at hi
    have hin : i < n ∧ i < zs.length := by
      rcases Nat.lt_or_ge i (zs.take n).length with h | h
      · simp at h; omega
      · rw [List.getElem?_eq_none h] at hi; cases hi
    have := hcell i hin.2
    rw [Addr.add_mid] at this
    rw [this, ← hi, List.getElem?_take_of_lt hin.1]
    simp [List.getD, hin.2]
end
end Go.Proofs.YtcjbfokindoicaaDoor.On
