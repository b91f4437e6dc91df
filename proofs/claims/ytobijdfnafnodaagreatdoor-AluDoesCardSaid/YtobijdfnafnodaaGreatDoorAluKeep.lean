/- Worlds that keep their cells (maps may turn); function values told by what they do; what gives up. -/
import Derived.Test.YtobijdfnafnodaaGreatDoorStkAwake
import Derived.Recover
namespace Go.Proofs.YtobijdfnafnodaaGreatDoor
set_option maxRecDepth 100000
set_option maxRecDepth 100000
open Go.ChangeShapes Go.WideShapes Go.ChangeAt Go.RowKit
open Sk (Sl ints Own)
set_option linter.unusedVariables false

structure Keep (W w : World) : Prop where
  os : w.os = W.os
  tape : w.tape = W.tape
  output : w.output = W.output
  size : W.heap.size ≤ w.heap.size
  block : ∀ (k : Nat) (c : Array Value) (e : TypeId) (z : Nat × Nat), W.heap[k]? = some (.cells c e z) → w.heap[k]? = some (.cells c e z)
theorem Keep.refl (W : World) : Keep W W := ⟨rfl, rfl, rfl, Nat.le_refl _, fun _ _ _ _ h => h⟩
theorem Keep.trans {a b c : World} (h : Keep a b) (k : Keep b c) : Keep a c :=
  ⟨k.os.trans h.os, k.tape.trans h.tape, k.output.trans h.output, Nat.le_trans h.size k.size, fun i c e z hi => k.block i c e z (h.block i c e z hi)⟩
theorem Keep.of {W w : World} (h : Below W.heap.size W w) : Keep W w :=
  ⟨h.os, h.tape, h.output, h.size, fun k c e z hk => (h.block k (Array.getElem?_eq_some_iff.1 hk).1).trans hk⟩
theorem Keep.cell {W w : World} (h : Keep W w) {p : Addr} {v : Value} (hc : W.cell? p = some v) : w.cell? p = some v := by
  unfold World.cell? at hc ⊢
  cases hk : W.heap[p.block]? with
  | none => rw [hk] at hc; cases hc
  | some o =>
    rw [hk] at hc
    cases o with
    | cells c e z => rw [h.block _ _ _ _ hk]; exact hc
    | _ => cases hc
theorem Sl.keep {w w' : World} {a : Option Addr} {n c : Nat} {vs : List Value} (h : Sl w a n c vs) (hk : Keep w w') : Sl w' a n c vs :=
  ⟨h.len, h.cap, h.big, h.isnil, fun hn => by
    obtain ⟨b, o, rfl, hc⟩ := h.cells hn
    exact ⟨b, o, rfl, fun i v hi => hk.cell (hc i v hi)⟩⟩
/-- a variable of its own -/
theorem boxed (w : World) (v : Value) (T : TypeId) : (w.alloc (.cells #[v] T)).cell? ⟨w.heap.size, 0, none⟩ = some v ∧ Below w.heap.size w (w.alloc (.cells #[v] T)) :=
  ⟨cell_of_one (heap_alloc_new w _), (Below.refl _ _).alloc (Nat.le_refl _) _⟩

def I64 (x : Int) : Prop := -9223372036854775808 ≤ x ∧ x ≤ 9223372036854775807
def I64s (xs : List Int) : Prop := ∀ x ∈ xs, I64 x
theorem I64s.at {xs : List Int} (h : I64s xs) {i : Nat} : I64 (xs.getD i 0) := by
  by_cases c : i < xs.length
  · rw [List.getD_eq_getElem?_getD, List.getElem?_eq_getElem c]; exact h _ (List.getElem_mem c)
  · rw [List.getD_eq_getElem?_getD, List.getElem?_eq_none (by omega)]; exact ⟨by decide, by decide⟩
theorem I64s.take {xs : List Int} (h : I64s xs) (k : Nat) : I64s (xs.take k) := fun x hx => h x (List.mem_of_mem_take hx)
theorem I64s.drop {xs : List Int} (h : I64s xs) (k : Nat) : I64s (xs.drop k) := fun x hx => h x (List.mem_of_mem_drop hx)


theorem want_yes (t : Int) (w : World) :
    Calls Tryz.prog 116 #[.bool true, .int .i64 t] w fun e w' => e = .returned (.tuple #[]) ∧ w = w' := by
  go_enter Tryz.func116, Tryz.ntmps116
  go_wp2
  go_end0
  exact ⟨rfl, rfl⟩
theorem want_no (t : Int) (w : World) :
    Calls Tryz.prog 116 #[.bool false, .int .i64 t] w fun e w' => e = Ending.panicked [{ v := Value.iface 42 (Value.int IntKind.i64 (t)), recovered := false }] ∧ w = w' := by
  go_enter Tryz.func116, Tryz.ntmps116
  go_wp2
  exact ⟨rfl, rfl, rfl⟩

/-- the values that a word takes, and those that are left -/
theorem take_no (a : Option Addr) (n c k : Nat) (xs : List Int) (w : World) (h : Sl w a n c (ints xs)) (hn : n ≤ 17592186044416) (hk : n < k) (hk2 : k ≤ 10) :
    Calls Tryz.prog 114 #[.slice a n c, .int .i64 (k : Int)] w fun e w' => e = Ending.panicked [{ v := Value.iface 42 (Value.int IntKind.i64 (-4)), recovered := false }] ∧ Below w.heap.size w w' := by
  have hP := Lib.hid (Sk.pop_any a n c xs (k : Int) w h hn (by omega))
  have ht : Sk.tPop n (k : Int) = -4 := by unfold Sk.tPop; rw [if_pos (by omega)]
  rw [ht] at hP
  go_enter Tryz.func114, Tryz.ntmps114
  go_wp2_with (first | (go_at_call 144; (with_reducible refine hP.out.mono ?_); rintro e w1 ⟨a1, c1, a2, c2, rfl, hs1, hs2, hb1⟩; replace hb1 := Lib.hid hb1) | (go_at_call 116; (with_reducible refine (want_no (-4) _).mono ?_); rintro e w2 ⟨rfl, rfl⟩))
  exact ⟨rfl, rfl, hb1.out⟩
theorem take_ok (a : Option Addr) (n c k : Nat) (xs : List Int) (w : World) (h : Sl w a n c (ints xs)) (hn : n ≤ 17592186044416) (hk : k ≤ n) (hk2 : k ≤ 10) :
    Calls Tryz.prog 114 #[.slice a n c, .int .i64 (k : Int)] w fun e w' => ∃ a1 c1 a2 c2, e = .returned (.tuple #[.slice a1 (n - k) c1, .slice a2 k c2]) ∧ Sl w' a1 (n - k) c1 (ints (xs.take (n - k))) ∧ Sl w' a2 k c2 (ints (xs.drop (n - k))) ∧ Below w.heap.size w w' := by
  have hl := h.nums
  have ht : Sk.tPop n (k : Int) = 0 := by unfold Sk.tPop; rw [if_neg (by omega)]
  have e1 : Sk.leftX xs (k : Int) = xs.take (n - k) := by unfold Sk.leftX; rw [hl, ht, if_pos rfl]; simp
  have e2 : Sk.takenX xs (k : Int) = xs.drop (n - k) := by unfold Sk.takenX; rw [hl, ht, if_pos rfl]; simp
  have hP := Lib.hid (Sk.pop_any a n c xs (k : Int) w h hn (by omega))
  rw [ht, e1, e2] at hP
  have hP := Lib.hid (hP.out.mono fun e w' h => Sk.told2_at h (n := n - k) (m := k) (by rw [List.length_take, hl]; omega) (by rw [List.length_drop, hl]; omega))
  clear ht e1 e2
  go_enter Tryz.func114, Tryz.ntmps114
  go_wp2_with (first | (go_at_call 144; (with_reducible refine hP.out.mono ?_); rintro e w1 ⟨a1, c1, a2, c2, rfl, hs1, hs2, hb1⟩; replace hs1 := Lib.hid hs1; replace hs2 := Lib.hid hs2; replace hb1 := Lib.hid hb1) | (go_at_call 116; (with_reducible refine (want_yes 0 _).mono ?_); rintro e w2 ⟨rfl, rfl⟩))
  go_ret2
  exact ⟨_, _, _, _, rfl, hs1.out, hs2.out, hb1.out⟩
end Go.Proofs.YtobijdfnafnodaaGreatDoor
