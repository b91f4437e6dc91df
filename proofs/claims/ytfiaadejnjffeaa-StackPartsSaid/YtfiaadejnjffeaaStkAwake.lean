/- The statements' own awake: true. -/
import Derived.Test.YtfiaadejnjffeaaStkRoll
namespace Go.Proofs.Ytfiaadejnjffeaa
open Go.ChangeShapes Go.WideShapes Go.ChangeAt Go.RowKit
set_option linter.unusedVariables false

theorem new2 (x y : Int) (W : World) : (Instr.buildSlice 22 2 #[(0, .int .i64 x), (1, .int .i64 y)]).run Try.prog W = .ok (.slice (some ⟨W.heap.size, 0, none⟩) 2 2) (W.alloc (.cells #[.int .i64 x, .int .i64 y] 3)) := by
  kernel_rfl
/-- some integers in a new block read as they are, and all else as before -/
theorem fresh (w : World) (xs : List Int) (hl : xs.length ≤ 1000) : Sl (w.alloc (.cells (ints xs).toArray 3)) (some ⟨w.heap.size, 0, none⟩) xs.length xs.length (ints xs) ∧ Below w.heap.size w (w.alloc (.cells (ints xs).toArray 3)) :=
  ⟨(Own.full w w.heap.size 3 (Nat.le_refl _) (ints xs).toArray xs.length (by unfold maxLen; omega) (by simp [ints])).sl, (Below.refl _ _).alloc (Nat.le_refl _) _⟩

theorem told_at {w w' : World} {e : Ending} {xs : List Int} {t : Int} {n : Nat} (h : Told w w' e xs t) (hn : xs.length = n) : ∃ a c, e = .returned (.tuple #[.slice a n c, .int .i64 t]) ∧ Sl w' a n c (ints xs) ∧ Below w.heap.size w w' := by
  subst hn
  exact h
theorem told2_at {w w' : World} {e : Ending} {xs ys : List Int} {t : Int} {n m : Nat} (h : Told2 w w' e xs ys t) (hn : xs.length = n) (hm : ys.length = m) : ∃ a c b d, e = .returned (.tuple #[.slice a n c, .slice b m d, .int .i64 t]) ∧ Sl w' a n c (ints xs) ∧ Sl w' b m d (ints ys) ∧ Below w.heap.size w w' := by
  subst hn; subst hm
  exact h

theorem aw_push (a b : Option Addr) (c d : Nat) (w : World) (h : Sl w a 1 c (ints [1])) (g : Sl w b 2 d (ints [2, 3])) :
    Calls Try.prog 9 #[.slice a 1 c, .int .i64 3, .slice b 2 d] w fun e w' => ∃ a c, e = .returned (.tuple #[.slice a 3 c, .int .i64 0]) ∧ Sl w' a 3 c (ints [1, 2, 3]) ∧ Below w.heap.size w w' := by
  refine (push_any a b 1 c 2 d [1] [2, 3] 3 w h g (by decide) (by decide)).mono fun e w' h => ?_
  rw [show pushX [1] [2, 3] 3 = [1, 2, 3] by decide, show tPush 1 2 3 = 0 by decide] at h
  exact told_at h rfl
theorem aw_over (a b : Option Addr) (c d : Nat) (w : World) (h : Sl w a 3 c (ints [1, 2, 3])) (g : Sl w b 1 d (ints [4])) :
    Calls Try.prog 9 #[.slice a 3 c, .int .i64 3, .slice b 1 d] w fun e w' => ∃ a c, e = .returned (.tuple #[.slice a 0 c, .int .i64 (-3)]) ∧ Below w.heap.size w w' := by
  refine (push_any a b 3 c 1 d [1, 2, 3] [4] 3 w h g (by decide) (by decide)).mono fun e w' h => ?_
  rw [show pushX [1, 2, 3] [4] 3 = [] by decide, show tPush 3 1 3 = -3 by decide] at h
  obtain ⟨a, c, he, _, hb⟩ := told_at h rfl
  exact ⟨a, c, he, hb⟩
theorem aw_roll (a : Option Addr) (c : Nat) (w : World) (h : Sl w a 3 c (ints [1, 2, 3])) :
    Calls Try.prog 16 #[.slice a 3 c, .int .i64 2] w fun e w' => ∃ a c, e = .returned (.tuple #[.slice a 3 c, .int .i64 0]) ∧ Sl w' a 3 c (ints [2, 3, 1]) ∧ Below w.heap.size w w' := by
  refine (roll_any a 3 c [1, 2, 3] 2 w h (by decide) (by decide)).mono fun e w' h => ?_
  rw [show rollX [1, 2, 3] 2 = [2, 3, 1] by decide, show tPick 3 2 = 0 by decide] at h
  exact told_at h rfl
theorem aw_pop (a : Option Addr) (c : Nat) (w : World) (h : Sl w a 3 c (ints [1, 2, 3])) :
    Calls Try.prog 11 #[.slice a 3 c, .int .i64 2] w fun e w' => ∃ a c b d, e = .returned (.tuple #[.slice a 1 c, .slice b 2 d, .int .i64 0]) ∧ Sl w' a 1 c (ints [1]) ∧ Sl w' b 2 d (ints [2, 3]) ∧ Below w.heap.size w w' := by
  refine (pop_any a 3 c [1, 2, 3] 2 w h (by decide) (by decide)).mono fun e w' h => ?_
  rw [show leftX [1, 2, 3] 2 = [1] by decide, show takenX [1, 2, 3] 2 = [2, 3] by decide, show tPop 3 2 = 0 by decide] at h
  exact told2_at h rfl rfl
theorem aw_pick (a : Option Addr) (c : Nat) (w : World) (h : Sl w a 3 c (ints [1, 2, 3])) :
    Calls Try.prog 14 #[.slice a 3 c, .int .i64 1] w fun e w' => e = .returned (.tuple #[.int .i64 2, .int .i64 0]) ∧ Below w.heap.size w w' := by
  refine (pick_any a 3 c [1, 2, 3] 1 w h (by decide)).mono fun e w' h => ?_
  rw [show pickV [1, 2, 3] 1 = 2 by decide, show tPick 3 1 = 0 by decide] at h
  exact h

set_option maxHeartbeats 600000 in
theorem awake_any (w : World) :
    Calls Try.prog 8 #[] w fun e w' => e = .returned (.bool true) ∧ Below w.heap.size w w' := by
  have hn1 := new1
  have hn2 := new2
  obtain ⟨f1, g1⟩ : Sl (w.alloc (.cells #[.int .i64 1] 3)) (some ⟨w.heap.size, 0, none⟩) 1 1 (ints [1]) ∧ Below w.heap.size w (w.alloc (.cells #[.int .i64 1] 3)) := fresh w [1] (by decide)
  obtain ⟨f2, g2⟩ : Sl ((w.alloc (.cells #[.int .i64 1] 3)).alloc (.cells #[.int .i64 2, .int .i64 3] 3)) (some ⟨(w.alloc (.cells #[.int .i64 1] 3)).heap.size, 0, none⟩) 2 2 (ints [2, 3]) ∧ Below (w.alloc (.cells #[.int .i64 1] 3)).heap.size (w.alloc (.cells #[.int .i64 1] 3)) ((w.alloc (.cells #[.int .i64 1] 3)).alloc (.cells #[.int .i64 2, .int .i64 3] 3)) := fresh (w.alloc (.cells #[.int .i64 1] 3)) [2, 3] (by decide)
  have f1' := Lib.hid (f1.below g2)
  have hB := Lib.hid (g1.trans (g2.mono g1.size))
  have hsz : (w.alloc (.cells #[.int .i64 1] 3)).heap.size = w.heap.size + 1 := by simp
  rw [hsz] at f2
  have hp := Lib.hid (aw_push _ _ _ _ _ f1'.out f2)
  clear hsz
  clear f1 f2 g1 g2
  go_enter Try.func8, Try.ntmps8
  go_wp2_with (first
    | (go_at_call 9; (with_reducible refine (hp.out).mono ?_); rintro e w3 ⟨a3, c3, rfl, hA, hb3⟩; have hB3 := Lib.hid (hB.out.trans (hb3.mono hB.out.size)); clear hb3)
    | (go_at_call 16; (with_reducible refine (aw_roll _ _ _ hA).mono ?_); rintro e w4 ⟨a4, c4, rfl, hR, hb4⟩; have hA4 := hA.below hb4; have hB4 := Lib.hid (hB3.out.trans (hb4.mono hB3.out.size)); clear hb4; obtain ⟨f4, g4⟩ : Sl (w4.alloc (.cells #[.int .i64 4] 3)) (some ⟨w4.heap.size, 0, none⟩) 1 1 (ints [4]) ∧ Below w4.heap.size w4 (w4.alloc (.cells #[.int .i64 4] 3)) := fresh w4 [4] (by decide); have hA5 := hA4.below g4; have hR5 := hR.below g4; have hB5 := Lib.hid (hB4.out.trans (g4.mono hB4.out.size)); clear g4)
    | (go_at_call 9; (with_reducible refine (aw_over _ _ _ _ _ hA5 f4).mono ?_); rintro e w6 ⟨a6, c6, rfl, hb6⟩; have hA6 := hA5.below hb6; have hR6 := hR5.below hb6; have hB6 := Lib.hid (hB5.out.trans (hb6.mono hB5.out.size)); clear hb6)
    | (go_at_call 11; (with_reducible refine (aw_pop _ _ _ hA6).mono ?_); rintro e w7 ⟨a7, c7, b7, d7, rfl, hL, hT, hb7⟩; have hA7 := hA6.below hb7; have hR7 := hR6.below hb7; have hB7 := Lib.hid (hB6.out.trans (hb7.mono hB6.out.size)); clear hb7)
    | (go_at_call 14; (with_reducible refine (aw_pick _ _ _ hA7).mono ?_); rintro e w8 ⟨rfl, hb8⟩; have hR8 := hR7.below hb8; have hT8 := hT.below hb8; have hB8 := Lib.hid (hB7.out.trans (hb8.mono hB7.out.size)); clear hb8; obtain ⟨bR, oR, rfl, hcR⟩ := hR8.int (i := 2) (by decide); obtain ⟨bT, oT, rfl, hcT⟩ := hT8.int (i := 1) (by decide); have hcR' : w8.cell? ⟨bR, oR + 2, none⟩ = some (.int .i64 1) := hcR; have hcT' : w8.cell? ⟨bT, oT + 1, none⟩ = some (.int .i64 3) := hcT; clear hcR hcT))
  go_ret
  exact ⟨rfl, hB8.out⟩
end Go.Proofs.Ytfiaadejnjffeaa
