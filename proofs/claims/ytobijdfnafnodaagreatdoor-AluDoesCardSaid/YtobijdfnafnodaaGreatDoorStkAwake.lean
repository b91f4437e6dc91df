/- The statements' own awake: true. -/
import Derived.Test.YtobijdfnafnodaaGreatDoorStkRoll
namespace Go.Proofs.YtobijdfnafnodaaGreatDoor.Sk
set_option maxRecDepth 100000
open Go.ChangeShapes Go.WideShapes Go.ChangeAt Go.RowKit
set_option linter.unusedVariables false

theorem new2 (x y : Int) (W : World) : (Instr.buildSlice 22 2 #[(0, .int .i64 x), (1, .int .i64 y)]).run Tryz.prog W = .ok (.slice (some ⟨W.heap.size, 0, none⟩) 2 2) (W.alloc (.cells #[.int .i64 x, .int .i64 y] 3)) := by
  kernel_rfl
/-- some integers in a new block read as they are, and all else as before -/
theorem fresh (w : World) (xs : List Int) (hl : xs.length ≤ 1000) : Sl (w.alloc (.cells (ints xs).toArray 3)) (some ⟨w.heap.size, 0, none⟩) xs.length xs.length (ints xs) ∧ Below w.heap.size w (w.alloc (.cells (ints xs).toArray 3)) :=
  ⟨(Own.full w w.heap.size 3 (Nat.le_refl _) (ints xs).toArray xs.length (by unfold maxLen; omega) (by simp [ints])).sl, (Below.refl _ _).alloc (Nat.le_refl _) _⟩

theorem told_at {w w' : World} {e : Ending} {xs : List Int} {t : Int} {n : Nat} (h : Told w w' e xs t) (hn : xs.length = n) : ∃ a c, e = .returned (.tuple #[.slice a n c, .int .i64 t]) ∧ Sl w' a n c (ints xs) ∧ Below w.heap.size w w' := by
  subst hn
  exact h
theorem told2_at {w w' : World} {e : Ending} {xs ys : List Int} {t : Int} {n m : Nat} (h : Told2 w w' e xs ys t) (hn : xs.length = n) (hm : ys.length = m) : ∃ a c b d, e = .returned (.tuple #[.slice a n c, .slice b m d, .int .i64 t]) ∧ Sl w' a n c (ints xs) ∧ Sl w' b m d (ints ys) ∧ Below w.heap.size w w' := by
  subst hn; subst hm
  exact h

theorem aw_push (a b : Option Addr) (c d : Nat) (w : World) (h : Sl w a 1 c (ints [1])) (g : Sl w b 2 d (ints [2, 3])) :
    Calls Tryz.prog 20 #[.slice a 1 c, .int .i64 3, .slice b 2 d] w fun e w' => ∃ a c, e = .returned (.tuple #[.slice a 3 c, .int .i64 0]) ∧ Sl w' a 3 c (ints [1, 2, 3]) ∧ Below w.heap.size w w' := by
  refine (push_any a b 1 c 2 d [1] [2, 3] 3 w h g (by decide) (by decide)).mono fun e w' h => ?_
  rw [show pushX [1] [2, 3] 3 = [1, 2, 3] by decide, show tPush 1 2 3 = 0 by decide] at h
  exact told_at h rfl
theorem aw_over (a b : Option Addr) (c d : Nat) (w : World) (h : Sl w a 3 c (ints [1, 2, 3])) (g : Sl w b 1 d (ints [4])) :
    Calls Tryz.prog 20 #[.slice a 3 c, .int .i64 3, .slice b 1 d] w fun e w' => ∃ a c, e = .returned (.tuple #[.slice a 0 c, .int .i64 (-3)]) ∧ Below w.heap.size w w' := by
  refine (push_any a b 3 c 1 d [1, 2, 3] [4] 3 w h g (by decide) (by decide)).mono fun e w' h => ?_
  rw [show pushX [1, 2, 3] [4] 3 = [] by decide, show tPush 3 1 3 = -3 by decide] at h
  obtain ⟨a, c, he, _, hb⟩ := told_at h rfl
  exact ⟨a, c, he, hb⟩
theorem aw_roll (a : Option Addr) (c : Nat) (w : World) (h : Sl w a 3 c (ints [1, 2, 3])) :
    Calls Tryz.prog 117 #[.slice a 3 c, .int .i64 2] w fun e w' => ∃ a c, e = .returned (.tuple #[.slice a 3 c, .int .i64 0]) ∧ Sl w' a 3 c (ints [2, 3, 1]) ∧ Below w.heap.size w w' := by
  refine (roll_any a 3 c [1, 2, 3] 2 w h (by decide) (by decide)).mono fun e w' h => ?_
  rw [show rollX [1, 2, 3] 2 = [2, 3, 1] by decide, show tPick 3 2 = 0 by decide] at h
  exact told_at h rfl
theorem aw_pop (a : Option Addr) (c : Nat) (w : World) (h : Sl w a 3 c (ints [1, 2, 3])) :
    Calls Tryz.prog 144 #[.slice a 3 c, .int .i64 2] w fun e w' => ∃ a c b d, e = .returned (.tuple #[.slice a 1 c, .slice b 2 d, .int .i64 0]) ∧ Sl w' a 1 c (ints [1]) ∧ Sl w' b 2 d (ints [2, 3]) ∧ Below w.heap.size w w' := by
  refine (pop_any a 3 c [1, 2, 3] 2 w h (by decide) (by decide)).mono fun e w' h => ?_
  rw [show leftX [1, 2, 3] 2 = [1] by decide, show takenX [1, 2, 3] 2 = [2, 3] by decide, show tPop 3 2 = 0 by decide] at h
  exact told2_at h rfl rfl
theorem aw_pick (a : Option Addr) (c : Nat) (w : World) (h : Sl w a 3 c (ints [1, 2, 3])) :
    Calls Tryz.prog 115 #[.slice a 3 c, .int .i64 1] w fun e w' => e = .returned (.tuple #[.int .i64 2, .int .i64 0]) ∧ Below w.heap.size w w' := by
  refine (pick_any a 3 c [1, 2, 3] 1 w h (by decide)).mono fun e w' h => ?_
  rw [show pickV [1, 2, 3] 1 = 2 by decide, show tPick 3 1 = 0 by decide] at h
  exact h

end Go.Proofs.YtobijdfnafnodaaGreatDoor.Sk
