/- Slices whose elements take s cells each, as lists of cells, wherever they lie: they stay so where nothing below the heap's size has turned; cut; rows of a call's own that are appended to. No program is named here. -/
import Derived.Test.YtcjbfokindoicaaDoorRows
import Derived.Test.YtcjbfokindoicaaDoorBelow
import Derived.WalkKit
import Derived.ProofKit
import Derived.OpenShut
import Derived.Laws.Slices
import Derived.Laws.MakeOwn
import Derived.Below
import Derived.OwnWalk
import Derived.Laws.AppendOwnNone
import Derived.Deep.MidRow
namespace Go.Proofs.YtcjbfokindoicaaDoor.On
set_option maxRecDepth 100000
open Go.ChangeShapes Go.WideShapes Go.ChangeAt Go.RowKit

theorem range_below {w w' : World} {b o B : Nat} {cs : List Value} (h : w.rangeAt b o cs) (hb : Below B w w') (hB : b < B) : w'.rangeAt b o cs := fun j v hv => by
  rw [hb.cell (p := ⟨b, o + j, none⟩) hB]
  exact h j v hv
theorem range_lt {w : World} {b o : Nat} {cs : List Value} (h : w.rangeAt b o cs) (hn : cs ≠ []) : b < w.heap.size := by
  cases cs with
  | nil => exact absurd rfl hn
  | cons v cs => exact World.block_lt_of_cell? _ _ (h 0 v rfl)
theorem range_part {w : World} {b o : Nat} {cs : List Value} (h : w.rangeAt b o cs) (k m : Nat) : w.rangeAt b (o + k) ((cs.drop k).take m) := fun j v hv => by
  have hj : j < m := by
    have := (List.getElem?_eq_some_iff.1 hv).1
    simp at this
    omega
  rw [List.getElem?_take_of_lt hj, List.getElem?_drop] at hv
  rw [Nat.add_assoc]
  exact h (k + j) v hv

/-- the slice reads as the cells vs, s of them an element -/
structure Sz (w : World) (s : Nat) (a : Option Addr) (n c : Nat) (vs : List Value) : Prop where
  len : vs.length = n * s
  cap : n ≤ c
  big : c ≤ maxLen
  isnil : a = none → c = 0
  cells : 0 < n → ∃ b o, a = some ⟨b, o, none⟩ ∧ w.rangeAt b o vs

theorem Sz.below {w w' : World} {s : Nat} {a : Option Addr} {n c : Nat} {vs : List Value} (h : Sz w s a n c vs) (hb : Below w.heap.size w w') : Sz w' s a n c vs :=
  ⟨h.len, h.cap, h.big, h.isnil, fun hn => by
    obtain ⟨b, o, rfl, hc⟩ := h.cells hn
    refine ⟨b, o, rfl, fun i v hi => ?_⟩
    have hlt := World.block_lt_of_cell? _ _ (hc i v hi)
    rw [hb.cell (p := ⟨b, o + i, none⟩) hlt]
    exact hc i v hi⟩
theorem Sz.zero (w : World) (s : Nat) : Sz w s none 0 0 [] :=
  ⟨by simp, Nat.le_refl _, Nat.zero_le _, fun _ => rfl, fun h => absurd h (Nat.lt_irrefl _)⟩
theorem Sz.bd {w : World} {s : Nat} {a : Option Addr} {n c : Nat} {vs : List Value} (h : Sz w s a n c vs) : (n : Int) ≤ 9223372036854775807 ∧ (c : Int) ≤ 9223372036854775807 ∧ n ≤ c := by
  have h1 := h.cap
  have h2 := h.big
  unfold maxLen at h2
  omega
/-- one element's cells -/
theorem Sz.at {w : World} {s : Nat} {a : Option Addr} {n c : Nat} {vs : List Value} (h : Sz w s a n c vs) {i : Nat} (hi : i < n) : ∃ b o, a = some ⟨b, o, none⟩ ∧ w.rangeAt b (o + i * s) ((vs.drop (i * s)).take s) := by
  obtain ⟨b, o, rfl, hc⟩ := h.cells (by omega)
  exact ⟨b, o, rfl, range_part hc _ _⟩
theorem Sz.cutTo {P : Program} {w : World} {s : Nat} {a : Option Addr} {n c : Nat} {vs : List Value} (h : Sz w s a n c vs) (t e : TypeId) (ht : P.underlying t = some (.slice e)) (hz : ∀ w, (Go.sizeOf e).run P w = .ok s w) (m : Nat) (hm : m ≤ n) :
    ∃ a', (∀ W, (Instr.slice t (.slice a n c) none (some (.int .i64 (m : Int))) none).run P W = .ok (.slice a' m c) W) ∧ Sz w s a' m c (vs.take (m * s)) := by
  have hnc := h.cap
  refine ⟨if c = 0 then a else a.map (·.add (0 * s)), fun W => ?_, ?_⟩
  · have ht' : P.underlying t = some (.slice (P.elem t)) := by simp [Program.elem, ht]
    have he : P.elem t = e := by simp [Program.elem, ht]
    rw [run_slice_h W t _ _ _ ht' .i64 _ (by omega) (by omega), he, hz]
    simp only [Result.andThen, sliced, Int.toNat_natCast, Nat.sub_zero]
  · have hl := h.len
    have hms : m * s ≤ n * s := Nat.mul_le_mul_right s hm
    refine ⟨by rw [List.length_take]; omega, by omega, h.big, fun ha => ?_, fun hm0 => ?_⟩
    · split at ha
      · assumption
      · have : a = none := by cases a <;> simp_all
        exact h.isnil this
    · obtain ⟨b, o, rfl, hc⟩ := h.cells (by omega)
      rw [if_neg (by omega)]
      refine ⟨b, o, by simp [add_plain], fun i v hi => ?_⟩
      have hik : i < m * s := by
        have := (List.getElem?_eq_some_iff.1 hi).1
        simp at this
        omega
      rw [List.getElem?_take_of_lt hik] at hi
      exact hc i v hi

/-- a row of the call's own, from block B on: vs in its first n elements -/
def Oz (w : World) (B : Nat) (e : TypeId) (s : Nat) (a : Option Addr) (n cap : Nat) (vs : List Value) : Prop := w.ownsRow B e s (.slice a n cap) n vs

theorem Oz.len {w : World} {B n cap s : Nat} {e : TypeId} {a : Option Addr} {vs : List Value} (h : Oz w B e s a n cap vs) : vs.length = n * s := h.1
theorem Oz.nil (w : World) (B : Nat) (e : TypeId) (s : Nat) : Oz w B e s none 0 0 [] := World.ownsRow_nil w B e s
theorem Oz.made (w : World) (B : Nat) (e : TypeId) (s : Nat) (hB : B ≤ w.heap.size) (cur : Array Value) (cap : Nat) (hm : cap ≤ maxLen) (hs : cur.size = cap * s) : Oz (w.alloc (.cells cur e)) B e s (some ⟨w.heap.size, 0, none⟩) 0 cap [] :=
  World.ownsRow_made w cur cap hB hm hs
theorem Oz.full (w : World) (B : Nat) (e : TypeId) (s : Nat) (hB : B ≤ w.heap.size) (cur : Array Value) (n : Nat) (hm : n ≤ maxLen) (hs : cur.size = n * s) : Oz (w.alloc (.cells cur e)) B e s (some ⟨w.heap.size, 0, none⟩) n n cur.toList :=
  ⟨by simp [hs], .inr ⟨w.heap.size, n, cur, rfl, hB, heap_alloc_new w _, Nat.le_refl _, hm, by omega, by exact List.take_of_length_le (by simp [hs])⟩⟩
theorem Oz.sz {w : World} {B n cap s : Nat} {e : TypeId} {a : Option Addr} {vs : List Value} (h : Oz w B e s a n cap vs) : Sz w s a n cap vs := by
  have hl := h.len
  rcases h.2 with ⟨hv, h0⟩ | ⟨g, cap', cur, hv, hB, hg, hnc, hcm, hsz, ht⟩
  · simp only [Value.slice.injEq] at hv
    obtain ⟨rfl, rfl, rfl⟩ := hv
    obtain rfl : vs = [] := List.eq_nil_of_length_eq_zero (by simpa using hl)
    exact Sz.zero w s
  · simp only [Value.slice.injEq, true_and] at hv
    obtain ⟨rfl, rfl⟩ := hv
    refine ⟨hl, hnc, hcm, fun hn => (by cases hn), fun _ => ⟨g, 0, rfl, fun i v hi => ?_⟩⟩
    have hi' : i < n * s := by
      have := (List.getElem?_eq_some_iff.1 hi).1
      omega
    rw [Nat.zero_add]
    have := World.ownsRow.cellAt h i hi'
    rw [this]
    exact hi
theorem Oz.lt {w : World} {B n cap s : Nat} {e : TypeId} {x : Addr} {vs : List Value} (h : Oz w B e s (some x) n cap vs) : B ≤ x.block ∧ x.block < w.heap.size := World.ownsRow.lt h x.block rfl
theorem Oz.alloc {w : World} {B n cap s : Nat} {e : TypeId} {a : Option Addr} {vs : List Value} (h : Oz w B e s a n cap vs) (o : Obj) : Oz (w.alloc o) B e s a n cap vs := World.ownsRow.alloc h o

/-- a slice is appended to a row of the call's own -/
theorem Oz.app {P : Program} {w : World} {B n cap m c by_ s : Nat} {t e ty : TypeId} {i : TypeInfo} {z : Value} {a a2 : Option Addr} {vs us : List Value}
    (ht : P.underlying t = some (.slice e)) (hi : P.info? e = some i) (hz0 : i.zero = some z) (hz1 : i.size = s) (hz2 : i.bytes = by_) (hzc : z.cells.size = s) (hs0 : 0 < s)
    (h : Oz w B e s a n cap vs) (hs : Sz w s a2 m c us) (h1 : ∀ u ∈ us, u.oneCell' = true) (hm : n + m ≤ 9223372036854775807) (hby : (n + m) * by_ ≤ 140737488355328) (hB : B ≤ w.heap.size) :
    ∃ a' cap' w2, (Builtin.append_ #[t, t] ty #[.slice a n cap, .slice a2 m c]).run P w = .ok (.slice a' (n + m) cap') w2 ∧ Oz w2 B e s a' (n + m) cap' (vs ++ us) ∧ Below B w w2 := by
  have hl := hs.len
  cases a2 with
  | none =>
    have hc0 := hs.isnil rfl
    have hn0 : m = 0 := by have := hs.cap; omega
    subst hc0; subst hn0
    obtain rfl : us = [] := List.eq_nil_of_length_eq_zero (by simpa using hl)
    refine ⟨a, cap, w, run_append_owned_none (P := P) w B t ty e i s ht hi _ n vs h, ?_, Below.refl _ _⟩
    rw [List.append_nil]
    exact h
  | some ad =>
    obtain ⟨v', w2, hrun, ho, hg, hne⟩ := run_append_own (P := P) w B t ty e i z s by_ ht hi hz0 hz1 hz2 hzc hs0 _ n vs h ad m c us hl (fun j v hj => by
      have hm0 : 0 < m := by
        rcases Nat.eq_zero_or_pos m with h0 | h0
        · subst h0
          obtain rfl : us = [] := List.eq_nil_of_length_eq_zero (by simpa using hl)
          simp at hj
        · exact h0
      obtain ⟨b, o, hab, hc⟩ := hs.cells hm0
      obtain rfl := Option.some.inj hab
      rw [add_plain]
      exact hc j v hj) h1 (by unfold maxLen; omega) hby hB
    have hb2 : Below B w w2 := (Below.refl B w).grown hg hB (fun k hk => (World.ownsRow.lt h k hk).1)
    obtain ⟨a', cap', rfl⟩ : ∃ a' cap', v' = .slice a' (n + m) cap' := by
      rcases ho.2 with ⟨hv, h0⟩ | ⟨g, cap, cur, hv, _⟩
      · exact ⟨none, 0, by rw [hv, h0]⟩
      · exact ⟨_, cap, hv⟩
    exact ⟨a', cap', w2, hrun, ho, hb2⟩

/-- an append whose run is known, as an arm of the walk -/
theorem wpList_append_run {P : Program} {w w2 : World} {ops : Array Oper} {rest : List Oper} {o : Oper} {a : Act} {Q : Exit → Act → World → Prop} (hgd : o.guard = none) (s x : Operand) (t : TypeId)
    (ho : o.op = .call { callee := .builtin .append, args := #[s, x], argTypes := #[t, t] }) (vs vx v : Value) (hs : a.eval s = vs) (hx : a.eval x = vx)
    (hrun : (Builtin.append_ #[t, t] o.type #[vs, vx]).run P w = .ok v w2) (h : wpList P ops Q rest (a.put o.dst v) w2) : wpList P ops Q (o :: rest) a w := by
  refine wpList_plain hgd fun K hK => ?_
  unfold Oper.wp execOp
  simp only [ho, resolve, invoke, builtin, Sem.run_bind, Sem.run_pure, Result.andThen_ok, List.map_toArray, List.map_cons, List.map_nil, hs, hx, hrun]
  exact hK _ _ h
end Go.Proofs.YtcjbfokindoicaaDoor.On
