/- A slice whose elements take one cell each, as a list of values, wherever it lies: it stays so where nothing below the heap's size has turned; its elements; cut with two and with three indices; rows of a call's own that are appended to. No program is named here: for every element type of one cell. -/
import Derived.Test.YtobijdfnafnodaaGreatDoorRows
import Derived.Test.YtobijdfnafnodaaGreatDoorBelow
import Derived.WalkKit
import Derived.ProofKit
import Derived.OpenShut
import Derived.Laws.Slices
import Derived.Laws.MakeOwn
import Derived.Below
import Derived.OwnWalk
import Derived.Laws.AppendOwnNone
namespace Go.Proofs.YtobijdfnafnodaaGreatDoor.Sk
open Go.ChangeShapes Go.WideShapes Go.ChangeAt Go.RowKit

/-- the slice reads as the values vs -/
structure Sl (w : World) (a : Option Addr) (n c : Nat) (vs : List Value) : Prop where
  len : vs.length = n
  cap : n ≤ c
  big : c ≤ maxLen
  isnil : a = none → c = 0
  cells : 0 < n → ∃ b o, a = some ⟨b, o, none⟩ ∧ ∀ i v, vs[i]? = some v → w.cell? ⟨b, o + i, none⟩ = some v

theorem Sl.below {w w' : World} {a : Option Addr} {n c : Nat} {vs : List Value} (h : Sl w a n c vs) (hb : Below w.heap.size w w') : Sl w' a n c vs :=
  ⟨h.len, h.cap, h.big, h.isnil, fun hn => by
    obtain ⟨b, o, rfl, hc⟩ := h.cells hn
    refine ⟨b, o, rfl, fun i v hi => ?_⟩
    have hlt := World.block_lt_of_cell? _ _ (hc i v hi)
    rw [hb.cell (p := ⟨b, o + i, none⟩) hlt]
    exact hc i v hi⟩

theorem Sl.zero (w : World) : Sl w none 0 0 [] :=
  ⟨rfl, Nat.le_refl _, Nat.zero_le _, fun _ => rfl, fun h => absurd h (Nat.lt_irrefl _)⟩

theorem Sl.bd {w : World} {a : Option Addr} {n c : Nat} {vs : List Value} (h : Sl w a n c vs) : (n : Int) ≤ 9223372036854775807 ∧ (c : Int) ≤ 9223372036854775807 ∧ n ≤ c := by
  have h1 := h.cap
  have h2 := h.big
  unfold maxLen at h2
  omega

theorem Sl.at {w : World} {a : Option Addr} {n c : Nat} {vs : List Value} (h : Sl w a n c vs) {i : Nat} {v : Value} (hi : vs[i]? = some v) : ∃ b o, a = some ⟨b, o, none⟩ ∧ w.cell? ⟨b, o + i, none⟩ = some v := by
  have hl : i < vs.length := (List.getElem?_eq_some_iff.1 hi).1
  obtain ⟨b, o, rfl, hc⟩ := h.cells (by have := h.len; omega)
  exact ⟨b, o, rfl, hc i v hi⟩

/-- a part of it, at whatever capacity behind it -/
theorem Sl.part {w : World} {a : Option Addr} {n c : Nat} {vs : List Value} (h : Sl w a n c vs) (k e m : Nat) (hke : k ≤ e) (hen : e ≤ n) (hem : e ≤ m) (hmc : m ≤ c) :
    Sl w (if m = k then a else a.map (·.add (k * 1))) (e - k) (m - k) ((vs.drop k).take (e - k)) := by
  have hnc := h.cap
  refine ⟨by simp [h.len]; omega, by omega, by have := h.big; omega, fun ha => ?_, fun hm => ?_⟩
  · split at ha
    · omega
    · have : a = none := by cases a <;> simp_all
      have := h.isnil this
      omega
  · obtain ⟨b, o, rfl, hc⟩ := h.cells (by omega)
    rw [if_neg (by omega)]
    refine ⟨b, o + k, by simp [add_plain], fun i v hi => ?_⟩
    have hik : i < e - k := by
      have := (List.getElem?_eq_some_iff.1 hi).1
      simp at this
      omega
    have := hc (k + i) v (by rw [List.getElem?_take_of_lt hik] at hi; simpa using hi)
    rw [Nat.add_assoc, this]

/-- cut with three indices; up to a place; from a place on -/
theorem Sl.cut3 {P : Program} {w : World} {a : Option Addr} {n c : Nat} {vs : List Value} (h : Sl w a n c vs) (t e : TypeId) (ht : P.underlying t = some (.slice e)) (hz : ∀ w, (Go.sizeOf e).run P w = .ok 1 w) (k m : Nat) (hk : k ≤ m) (hm : m ≤ n) :
    ∃ a', (∀ W, (Instr.slice t (.slice a n c) (some (.int .i64 (k : Int))) (some (.int .i64 (m : Int))) (some (.int .i64 (m : Int)))).run P W = .ok (.slice a' (m - k) (m - k)) W) ∧ Sl w a' (m - k) (m - k) ((vs.drop k).take (m - k)) := by
  have hnc := h.cap
  refine ⟨_, fun W => ?_, h.part k m m hk hm (Nat.le_refl _) (by omega)⟩
  have ht' : P.underlying t = some (.slice (P.elem t)) := by simp [Program.elem, ht]
  have he : P.elem t = e := by simp [Program.elem, ht]
  rw [run_slice_lhm W t _ _ _ ht' .i64 .i64 .i64 _ _ _ (by omega) (by omega) (by omega) (by omega), he, hz]
  simp only [Result.andThen, sliced, Int.toNat_natCast]
theorem Sl.cutTo {P : Program} {w : World} {a : Option Addr} {n c : Nat} {vs : List Value} (h : Sl w a n c vs) (t e : TypeId) (ht : P.underlying t = some (.slice e)) (hz : ∀ w, (Go.sizeOf e).run P w = .ok 1 w) (m : Nat) (hm : m ≤ n) :
    ∃ a', (∀ W, (Instr.slice t (.slice a n c) none (some (.int .i64 (m : Int))) none).run P W = .ok (.slice a' m c) W) ∧ Sl w a' m c (vs.take m) := by
  have hnc := h.cap
  have hp := h.part 0 m c (Nat.zero_le _) hm (by omega) (Nat.le_refl _)
  simp only [Nat.sub_zero, List.drop_zero] at hp
  refine ⟨_, fun W => ?_, hp⟩
  have ht' : P.underlying t = some (.slice (P.elem t)) := by simp [Program.elem, ht]
  have he : P.elem t = e := by simp [Program.elem, ht]
  rw [run_slice_h W t _ _ _ ht' .i64 _ (by omega) (by omega), he, hz]
  simp only [Result.andThen, sliced, Int.toNat_natCast, Nat.sub_zero]
theorem Sl.cutFrom {P : Program} {w : World} {a : Option Addr} {n c : Nat} {vs : List Value} (h : Sl w a n c vs) (t e : TypeId) (ht : P.underlying t = some (.slice e)) (hz : ∀ w, (Go.sizeOf e).run P w = .ok 1 w) (k : Nat) (hk : k ≤ n) :
    ∃ a', (∀ W, (Instr.slice t (.slice a n c) (some (.int .i64 (k : Int))) none none).run P W = .ok (.slice a' (n - k) (c - k)) W) ∧ Sl w a' (n - k) (c - k) (vs.drop k) := by
  have hnc := h.cap
  have hp := h.part k n c hk (Nat.le_refl _) hnc (Nat.le_refl _)
  rw [List.take_of_length_le (by simp [h.len])] at hp
  refine ⟨_, fun W => ?_, hp⟩
  have ht' : P.underlying t = some (.slice (P.elem t)) := by simp [Program.elem, ht]
  have he : P.elem t = e := by simp [Program.elem, ht]
  rw [run_slice_l W t _ _ _ ht' .i64 _ (by omega) (by omega), he, hz]
  simp only [Result.andThen, sliced, Int.toNat_natCast]

/-- a row of the call's own, from block B on: vs in its first n cells -/
def Own (w : World) (B : Nat) (e : TypeId) (a : Option Addr) (n cap : Nat) (vs : List Value) : Prop := w.ownsRow B e 1 (.slice a n cap) n vs

theorem Own.len {w : World} {B n cap : Nat} {e : TypeId} {a : Option Addr} {vs : List Value} (h : Own w B e a n cap vs) : vs.length = n := by
  have := h.1
  omega
theorem Own.nil (w : World) (B : Nat) (e : TypeId) : Own w B e none 0 0 [] := World.ownsRow_nil w B e 1
theorem Own.made (w : World) (B : Nat) (e : TypeId) (hB : B ≤ w.heap.size) (cur : Array Value) (cap : Nat) (hm : cap ≤ maxLen) (hs : cur.size = cap) : Own (w.alloc (.cells cur e)) B e (some ⟨w.heap.size, 0, none⟩) 0 cap [] :=
  World.ownsRow_made w cur cap hB hm (by omega)
theorem Own.full (w : World) (B : Nat) (e : TypeId) (hB : B ≤ w.heap.size) (cur : Array Value) (n : Nat) (hm : n ≤ maxLen) (hs : cur.size = n) : Own (w.alloc (.cells cur e)) B e (some ⟨w.heap.size, 0, none⟩) n n cur.toList :=
  ⟨by simp [hs], .inr ⟨w.heap.size, n, cur, rfl, hB, heap_alloc_new w _, Nat.le_refl _, hm, by omega, by rw [Nat.mul_one]; exact List.take_of_length_le (by simp [hs])⟩⟩
theorem Own.sl {w : World} {B n cap : Nat} {e : TypeId} {a : Option Addr} {vs : List Value} (h : Own w B e a n cap vs) : Sl w a n cap vs := by
  have hl := h.len
  rcases h.2 with ⟨hv, h0⟩ | ⟨g, cap', cur, hv, hB, hg, hnc, hcm, hsz, ht⟩
  · simp only [Value.slice.injEq] at hv
    obtain ⟨rfl, rfl, rfl⟩ := hv
    obtain rfl : vs = [] := List.eq_nil_of_length_eq_zero hl
    exact Sl.zero w
  · simp only [Value.slice.injEq, true_and] at hv
    obtain ⟨rfl, rfl⟩ := hv
    refine ⟨hl, hnc, hcm, fun hn => (by cases hn), fun _ => ⟨g, 0, rfl, fun i v hi => ?_⟩⟩
    have hi' : i < n := by
      have := (List.getElem?_eq_some_iff.1 hi).1
      omega
    rw [Nat.zero_add]
    have := World.ownsRow.cellAt h i (by omega)
    rw [this]
    exact hi
theorem Own.lt {w : World} {B n cap : Nat} {e : TypeId} {x : Addr} {vs : List Value} (h : Own w B e (some x) n cap vs) : B ≤ x.block ∧ x.block < w.heap.size := World.ownsRow.lt h x.block rfl
theorem Own.frozen {w : World} {B n cap g : Nat} {e : TypeId} {vs : List Value} (h : Own w B e (some ⟨g, 0, none⟩) n cap vs) (i : Nat) : w.frozen? ⟨g, i, none⟩ = false := World.ownsRow.frozenAt h i
theorem Own.put {w : World} {B g n cap : Nat} {e : TypeId} {vs : List Value} (h : Own w B e (some ⟨g, 0, none⟩) n cap vs) (i : Nat) (x : Value) : Own (w.setCell ⟨g, i, none⟩ x) B e (some ⟨g, 0, none⟩) n cap (vs.set i x) := (World.ownsRow.stored h i x).1

/-- a slice is appended to a row of the call's own -/
theorem Own.app {P : Program} {w : World} {B n cap m c by_ : Nat} {t e ty : TypeId} {i : TypeInfo} {z : Value} {a a2 : Option Addr} {vs us : List Value}
    (ht : P.underlying t = some (.slice e)) (hi : P.info? e = some i) (hz0 : i.zero = some z) (hz1 : i.size = 1) (hz2 : i.bytes = by_) (hzc : z.cells.size = 1)
    (h : Own w B e a n cap vs) (hs : Sl w a2 m c us) (h1 : ∀ u ∈ us, u.oneCell' = true) (hm : n + m ≤ 9223372036854775807) (hby : (n + m) * by_ ≤ 140737488355328) (hB : B ≤ w.heap.size) :
    ∃ a' cap' w2, (Builtin.append_ #[t, t] ty #[.slice a n cap, .slice a2 m c]).run P w = .ok (.slice a' (n + m) cap') w2 ∧ Own w2 B e a' (n + m) cap' (vs ++ us) ∧ Below B w w2 := by
  have hl := hs.len
  cases a2 with
  | none =>
    have hc0 := hs.isnil rfl
    have hn0 : m = 0 := by have := hs.cap; omega
    subst hc0; subst hn0
    obtain rfl : us = [] := List.eq_nil_of_length_eq_zero hl
    refine ⟨a, cap, w, run_append_owned_none (P := P) w B t ty e i 1 ht hi _ n vs h, ?_, Below.refl _ _⟩
    rw [List.append_nil]
    exact h
  | some ad =>
    obtain ⟨v', w2, hrun, ho, hg, hne⟩ := run_append_own (P := P) w B t ty e i z 1 by_ ht hi hz0 hz1 hz2 hzc (by decide) _ n vs h ad m c us (by omega) (fun j v hj => by
      obtain ⟨b, o, hab, hc⟩ := hs.at hj
      obtain rfl := Option.some.inj hab
      rw [add_plain]
      exact hc) h1 (by unfold maxLen; omega) hby hB
    have hb2 : Below B w w2 := (Below.refl B w).grown hg hB (fun k hk => (World.ownsRow.lt h k hk).1)
    obtain ⟨a', cap', rfl⟩ : ∃ a' cap', v' = .slice a' (n + m) cap' := by
      rcases ho.2 with ⟨hv, h0⟩ | ⟨g, cap, cur, hv, _⟩
      · exact ⟨none, 0, by rw [hv, h0]⟩
      · exact ⟨_, cap, hv⟩
    exact ⟨a', cap', w2, hrun, ho, hb2⟩

/-- an append whose run is known, as an arm of the walk -/
theorem wpList_append_run {P : Program} {w w2 : World} {ops : Array Oper} {rest : List Oper} {o : Oper} {a : Act} {Q : Exit → Act → World → Prop} (hgd : o.guard = none) (s x : Operand) (t : TypeId)
    (ho : o.op = .call { callee := .builtin .append, args := #[s, x], argTypes := #[t, t] }) (vs vx v : Value) (hs : a.eval s = vs) (hx : a.eval x = vx)
    (hrun : (Builtin.append_ #[t, t] o.type #[vs, vx]).run P w = .ok v w2) (h : wpList P ops Q rest (a.put o.dst v) w2) : wpList P ops Q (o :: rest) a w := by
  refine wpList_plain hgd fun K hK => ?_
  unfold Oper.wp execOp
  simp only [ho, resolve, invoke, builtin, Sem.run_bind, Sem.run_pure, Result.andThen_ok, List.map_toArray, List.map_cons, List.map_nil, hs, hx, hrun]
  exact hK _ _ h

/-- a row of n integers, from what a law takes in -/
def ints (xs : List Int) : List Value := xs.map (Value.int .i64)
theorem ints_len (xs : List Int) : (ints xs).length = xs.length := by simp [ints]
theorem ints_one (xs : List Int) : ∀ v ∈ ints xs, v.oneCell' = true := by
  intro v hv
  obtain ⟨x, _, rfl⟩ := List.mem_map.1 hv
  rfl
theorem ints_get {xs : List Int} {i : Nat} (h : i < xs.length) : (ints xs)[i]? = some (.int .i64 (xs.getD i 0)) := by
  simp [ints, List.getD, h]
theorem ints_app (xs ys : List Int) : ints (xs ++ ys) = ints xs ++ ints ys := by simp [ints]
theorem ints_take (xs : List Int) (k : Nat) : (ints xs).take k = ints (xs.take k) := by simp [ints]
theorem ints_drop (xs : List Int) (k : Nat) : (ints xs).drop k = ints (xs.drop k) := by simp [ints]
theorem Sl.int {w : World} {a : Option Addr} {n c : Nat} {xs : List Int} (h : Sl w a n c (ints xs)) {i : Nat} (hi : i < xs.length) : ∃ b o, a = some ⟨b, o, none⟩ ∧ w.cell? ⟨b, o + i, none⟩ = some (.int .i64 (xs.getD i 0)) := h.at (ints_get hi)
theorem Sl.nums {w : World} {a : Option Addr} {n c : Nat} {xs : List Int} (h : Sl w a n c (ints xs)) : xs.length = n := by rw [← ints_len]; exact h.len
end Go.Proofs.YtobijdfnafnodaaGreatDoor.Sk
