/- flo.Two: its contract. -/
import Derived.Test.YtbgaoipgfmaijaaFloMap
namespace Go.Proofs.Ytbgaoipgfmaijaa
open Go.ChangeShapes Go.WideShapes Go.ChangeAt Go.RowKit
set_option linter.unusedVariables false

theorem below_drewN {B : Nat} {a w : World} (h : Below B a w) (n : Nat) : Below B a (w.drewN n) := ⟨h.os, h.tape, h.output, h.size, h.block⟩
theorem retIB {a a' : Int} {b b' : Bool} (h1 : a = a') (h2 : b = b') : Ending.returned (.tuple #[.int .i64 a, .bool b]) = .returned (.tuple #[.int .i64 a', .bool b']) := by rw [h1, h2]
def twB (op : Int) : Bool := op == 43 || op == 45 || op == 42 || op == 47 || op == 109 || op == 77
def twF (op : Int) (x y : Nat) : Option Nat :=
  if op = 43 then Ieee.double.add x y else if op = 45 then Ieee.double.sub x y else if op = 42 then Ieee.double.mul x y else if op = 47 then Ieee.double.div x y else if op = 109 then mnB x y else mxB x y
def twI (op a b : Int) : Int := if twB op then tlo (twF op (cb a) (cb b)) else 0
/-- A cell and a bool come back; but new blocks nothing has turned. -/
def IB (x : Int) (z : Bool) (w : World) (e : Ending) (w' : World) : Prop := e = .returned (.tuple #[.int .i64 x, .bool z]) ∧ Below w.heap.size w w'
theorem two_43 (a b : Int) (w : World) :
    Calls Try.prog 9 #[.int .u8 43, .int .i64 a, .int .i64 b] w (IB (twI 43 a b) (twB 43) w) := by
  have hl := fun w => run_find (P := Try.prog) Try.underlying36 Try.underlying5 twoES 6 43 (.func (Fn.func 35) #[] #[]) 0 rfl w.heap.size _ (MapKept.heap_alloc w (.map twoES 6)).1
  go_enter Try.func9, Try.ntmps9
  go_wp2_with (first | (go_at_call 24; refine (oftwo_any _).mono ?_; rintro e w' ⟨rfl, rfl⟩) | (go_at_call 26; refine (float_any _ _).mono ?_; rintro e w' ⟨rfl, rfl⟩) | (go_at_call 35; refine (cadd_any _ _ _).mono ?_; rintro e w' ⟨r, rfl, hr, n, rfl⟩; have HR := Lib.hid hr; clear hr) | (go_at_call 25; refine (told_any _ _).mono ?_; rintro e w' ⟨rfl, rfl⟩))
  go_ret2
  exact ⟨retIB HR.out rfl, below_drewN ((Below.refl _ _).alloc (Nat.le_refl _) _) _⟩
theorem two_45 (a b : Int) (w : World) :
    Calls Try.prog 9 #[.int .u8 45, .int .i64 a, .int .i64 b] w (IB (twI 45 a b) (twB 45) w) := by
  have hl := fun w => run_find (P := Try.prog) Try.underlying36 Try.underlying5 twoES 6 45 (.func (Fn.func 36) #[] #[]) 1 rfl w.heap.size _ (MapKept.heap_alloc w (.map twoES 6)).1
  go_enter Try.func9, Try.ntmps9
  go_wp2_with (first | (go_at_call 24; refine (oftwo_any _).mono ?_; rintro e w' ⟨rfl, rfl⟩) | (go_at_call 26; refine (float_any _ _).mono ?_; rintro e w' ⟨rfl, rfl⟩) | (go_at_call 36; refine (csub_any _ _ _).mono ?_; rintro e w' ⟨r, rfl, hr, n, rfl⟩; have HR := Lib.hid hr; clear hr) | (go_at_call 25; refine (told_any _ _).mono ?_; rintro e w' ⟨rfl, rfl⟩))
  go_ret2
  exact ⟨retIB HR.out rfl, below_drewN ((Below.refl _ _).alloc (Nat.le_refl _) _) _⟩
theorem two_42 (a b : Int) (w : World) :
    Calls Try.prog 9 #[.int .u8 42, .int .i64 a, .int .i64 b] w (IB (twI 42 a b) (twB 42) w) := by
  have hl := fun w => run_find (P := Try.prog) Try.underlying36 Try.underlying5 twoES 6 42 (.func (Fn.func 37) #[] #[]) 2 rfl w.heap.size _ (MapKept.heap_alloc w (.map twoES 6)).1
  go_enter Try.func9, Try.ntmps9
  go_wp2_with (first | (go_at_call 24; refine (oftwo_any _).mono ?_; rintro e w' ⟨rfl, rfl⟩) | (go_at_call 26; refine (float_any _ _).mono ?_; rintro e w' ⟨rfl, rfl⟩) | (go_at_call 37; refine (cmul_any _ _ _).mono ?_; rintro e w' ⟨r, rfl, hr, n, rfl⟩; have HR := Lib.hid hr; clear hr) | (go_at_call 25; refine (told_any _ _).mono ?_; rintro e w' ⟨rfl, rfl⟩))
  go_ret2
  exact ⟨retIB HR.out rfl, below_drewN ((Below.refl _ _).alloc (Nat.le_refl _) _) _⟩
theorem two_47 (a b : Int) (w : World) :
    Calls Try.prog 9 #[.int .u8 47, .int .i64 a, .int .i64 b] w (IB (twI 47 a b) (twB 47) w) := by
  have hl := fun w => run_find (P := Try.prog) Try.underlying36 Try.underlying5 twoES 6 47 (.func (Fn.func 38) #[] #[]) 3 rfl w.heap.size _ (MapKept.heap_alloc w (.map twoES 6)).1
  go_enter Try.func9, Try.ntmps9
  go_wp2_with (first | (go_at_call 24; refine (oftwo_any _).mono ?_; rintro e w' ⟨rfl, rfl⟩) | (go_at_call 26; refine (float_any _ _).mono ?_; rintro e w' ⟨rfl, rfl⟩) | (go_at_call 38; refine (cquo_any _ _ _).mono ?_; rintro e w' ⟨r, rfl, hr, n, rfl⟩; have HR := Lib.hid hr; clear hr) | (go_at_call 25; refine (told_any _ _).mono ?_; rintro e w' ⟨rfl, rfl⟩))
  go_ret2
  exact ⟨retIB HR.out rfl, below_drewN ((Below.refl _ _).alloc (Nat.le_refl _) _) _⟩
theorem two_109 (a b : Int) (w : World) :
    Calls Try.prog 9 #[.int .u8 109, .int .i64 a, .int .i64 b] w (IB (twI 109 a b) (twB 109) w) := by
  have hl := fun w => run_find (P := Try.prog) Try.underlying36 Try.underlying5 twoES 6 109 (.func (Fn.func 39) #[] #[]) 4 rfl w.heap.size _ (MapKept.heap_alloc w (.map twoES 6)).1
  go_enter Try.func9, Try.ntmps9
  go_wp2_with (first | (go_at_call 24; refine (oftwo_any _).mono ?_; rintro e w' ⟨rfl, rfl⟩) | (go_at_call 26; refine (float_any _ _).mono ?_; rintro e w' ⟨rfl, rfl⟩) | (go_at_call 39; refine (cmin_any _ _ _).mono ?_; rintro e w' ⟨r, rfl, hr, n, rfl⟩; have HR := Lib.hid hr; clear hr) | (go_at_call 25; refine (told_any _ _).mono ?_; rintro e w' ⟨rfl, rfl⟩))
  go_ret2
  exact ⟨retIB HR.out rfl, below_drewN ((Below.refl _ _).alloc (Nat.le_refl _) _) _⟩
theorem two_77 (a b : Int) (w : World) :
    Calls Try.prog 9 #[.int .u8 77, .int .i64 a, .int .i64 b] w (IB (twI 77 a b) (twB 77) w) := by
  have hl := fun w => run_find (P := Try.prog) Try.underlying36 Try.underlying5 twoES 6 77 (.func (Fn.func 40) #[] #[]) 5 rfl w.heap.size _ (MapKept.heap_alloc w (.map twoES 6)).1
  go_enter Try.func9, Try.ntmps9
  go_wp2_with (first | (go_at_call 24; refine (oftwo_any _).mono ?_; rintro e w' ⟨rfl, rfl⟩) | (go_at_call 26; refine (float_any _ _).mono ?_; rintro e w' ⟨rfl, rfl⟩) | (go_at_call 40; refine (cmax_any _ _ _).mono ?_; rintro e w' ⟨r, rfl, hr, n, rfl⟩; have HR := Lib.hid hr; clear hr) | (go_at_call 25; refine (told_any _ _).mono ?_; rintro e w' ⟨rfl, rfl⟩))
  go_ret2
  exact ⟨retIB HR.out rfl, below_drewN ((Below.refl _ _).alloc (Nat.le_refl _) _) _⟩
theorem find_no (op : Int) (h : twB op = false) : Instr.findNow (.int .u8) (.int .u8 op) twoES.toList 0 = some none := by
  simp only [twB, Bool.or_eq_false_iff] at h
  obtain ⟨⟨⟨⟨⟨h1, h2⟩, h3⟩, h4⟩, h5⟩, h6⟩ := h
  simp [twoES, Instr.findNow, Instr.sameNow, tw0, tw1, tw2, tw3, tw4, tw5, h1, h2, h3, h4, h5, h6]
theorem two_no (op a b : Int) (w : World) (h : twB op = false) :
    Calls Try.prog 9 #[.int .u8 op, .int .i64 a, .int .i64 b] w (IB 0 false w) := by
  have hl := fun w => run_find_no (P := Try.prog) Try.underlying36 Try.underlying5 twoES 6 op .nilFunc (fun w => by kernel_rfl) (find_no op h) w.heap.size _ (MapKept.heap_alloc w (.map twoES 6)).1
  clear h
  go_enter Try.func9, Try.ntmps9
  go_wp2_with (first | (go_at_call 24; refine (oftwo_any _).mono ?_; rintro e w' ⟨rfl, rfl⟩))
  go_ret2
  exact ⟨rfl, (Below.refl _ _).alloc (Nat.le_refl _) _⟩
theorem two_any (op a b : Int) (w : World) :
    Calls Try.prog 9 #[.int .u8 op, .int .i64 a, .int .i64 b] w (IB (twI op a b) (twB op) w) := by
  cases h : twB op
  · have e : twI op a b = 0 := by unfold twI; rw [h]; rfl
    rw [e]; exact two_no op a b w h
  · rw [← h]
    simp only [twB, Bool.or_eq_true, beq_iff_eq] at h
    rcases h with ((((rfl | rfl) | rfl) | rfl) | rfl) | rfl
    · exact two_43 a b w
    · exact two_45 a b w
    · exact two_42 a b w
    · exact two_47 a b w
    · exact two_109 a b w
    · exact two_77 a b w
end Go.Proofs.Ytbgaoipgfmaijaa
