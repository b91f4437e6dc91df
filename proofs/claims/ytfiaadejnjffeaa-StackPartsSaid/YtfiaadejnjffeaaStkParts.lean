/- For the law of parts of layer 4: pops whose outcome is known; an append behind a guard. -/
import Derived.Test.YtfiaadejnjffeaaStkLaw
import Derived.Test.YtfiaadejnjffeaaArr
namespace Go.Proofs.Ytfiaadejnjffeaa
open Go.ChangeShapes Go.WideShapes Go.ChangeAt Go.RowKit
set_option linter.unusedVariables false

/-- an append whose run is known, behind a guard that lets it through -/
theorem wpList_append_run_g {P : Program} {w w2 : World} {ops : Array Oper} {rest : List Oper} {o : Oper} {a : Act} {Q : Exit → Act → World → Prop} (hgd : Region.wanted o (yielded ops a.tmps) = true) (s x : Operand) (t : TypeId)
    (ho : o.op = .call { callee := .builtin .append, args := #[s, x], argTypes := #[t, t] }) (vs vx v : Value) (hs : a.eval s = vs) (hx : a.eval x = vx)
    (hrun : (Builtin.append_ #[t, t] o.type #[vs, vx]).run P w = .ok v w2) (h : wpList P ops Q rest (a.put o.dst v) w2) : wpList P ops Q (o :: rest) a w := by
  refine wpList_step fun K hK => ?_
  rw [if_pos hgd]
  unfold Oper.wp execOp
  simp only [ho, resolve, invoke, builtin, Sem.run_bind, Sem.run_pure, Result.andThen_ok, List.map_toArray, List.map_cons, List.map_nil, hs, hx, hrun]
  exact hK _ _ h

theorem cell_two (w : World) (x y : Value) (t : TypeId) : (w.alloc (.cells #[x, y] t)).cell? ⟨w.heap.size, 0, none⟩ = some x ∧ (w.alloc (.cells #[x, y] t)).cell? ⟨w.heap.size, 1, none⟩ = some y := by
  have h := heap_alloc_new w (.cells #[x, y] t)
  constructor <;> (unfold World.cell?; rw [h]; rfl)

theorem pt_pop (a : Option Addr) (N c n m : Nat) (k : Int) (xs ys : List Int) (w : World) (h : Sl w a N c (ints (xs ++ ys))) (hx : xs.length = n) (hy : ys.length = m) (hk : k = (m : Int)) (hn : N ≤ 17592186044416) :
    Calls Try.prog 11 #[.slice a N c, .int .i64 k] w fun e w' => ∃ a c b d, e = .returned (.tuple #[.slice a n c, .slice b m d, .int .i64 0]) ∧ Sl w' a n c (ints xs) ∧ Sl w' b m d (ints ys) ∧ Below w.heap.size w w' := by
  subst hk
  exact bk_pop a N c n m xs ys w h hx hy hn
theorem pt_under (a : Option Addr) (N c : Nat) (k : Int) (xs : List Int) (w : World) (h : Sl w a N c (ints xs)) (hk : (N : Int) < k) (hk2 : k ≤ 9223372036854775807) (hn : N ≤ 17592186044416) :
    Calls Try.prog 11 #[.slice a N c, .int .i64 k] w fun e w' => ∃ a c b d, e = .returned (.tuple #[.slice a 0 c, .slice b 0 d, .int .i64 (-4)]) ∧ Sl w' a 0 c (ints []) ∧ Below w.heap.size w w' := by
  refine (pop_any a N c xs k w h hn (by omega)).mono fun e w' hh => ?_
  have e1 : tPop N k = -4 := by unfold tPop; rw [if_pos (by omega)]
  have e2 : leftX xs k = [] := by unfold leftX; rw [h.nums, if_neg (by rw [e1]; decide)]
  have e3 : takenX xs k = [] := by unfold takenX; rw [h.nums, if_neg (by rw [e1]; decide)]
  rw [e1, e2, e3] at hh
  obtain ⟨a, c, b, d, he, h1, _, hb⟩ := told2_at hh rfl rfl
  exact ⟨a, c, b, d, he, h1, hb⟩
theorem pt_pick (a : Option Addr) (N c m : Nat) (pre ys : List Int) (y : Int) (w : World) (h : Sl w a N c (ints ((pre ++ [y]) ++ ys))) (hy : ys.length = m) (hn : N ≤ 17592186044416) :
    Calls Try.prog 14 #[.slice a N c, .int .i64 (m : Int)] w fun e w' => e = .returned (.tuple #[.int .i64 y, .int .i64 0]) ∧ Below w.heap.size w w' := by
  have e : (pre ++ [y]) ++ ys = pre ++ y :: ys := by simp
  have hN : N = pre.length + 1 + m := by have := h.nums; rw [e] at this; simp at this; omega
  obtain ⟨_, h2, h3⟩ := roll_at pre ys y m hy
  rw [← e] at h2 h3
  rw [h.nums] at h3
  refine (pick_any a N c _ _ w h (by omega)).mono fun e w' hh => ?_
  rw [h2, h3] at hh
  exact hh
theorem pt_nopick (a : Option Addr) (N c : Nat) (k : Int) (xs : List Int) (w : World) (h : Sl w a N c (ints xs)) (hk : (N : Int) ≤ k) (hk2 : k ≤ 9223372036854775807) :
    Calls Try.prog 14 #[.slice a N c, .int .i64 k] w fun e w' => e = .returned (.tuple #[.int .i64 0, .int .i64 (-4)]) ∧ Below w.heap.size w w' := by
  refine (pick_any a N c xs k w h (by omega)).mono fun e w' hh => ?_
  have e1 : tPick N k = -4 := by unfold tPick; rw [if_pos (by omega)]
  have e2 : pickV xs k = 0 := by unfold pickV; rw [h.nums, if_neg (by rw [e1]; decide)]
  rw [e1, e2] at hh
  exact hh
end Go.Proofs.Ytfiaadejnjffeaa
