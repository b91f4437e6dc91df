/- The document's words on one value, on two. Written by wip/gen/aluref.py. -/
import Derived.Test.YtobijdfnafnodaaGreatDoorAluPhi
import Derived.Test.YtobijdfnafnodaaGreatDoorCellRdiv
import Derived.Test.YtobijdfnafnodaaGreatDoorRefScale
namespace Go.Proofs.YtobijdfnafnodaaGreatDoor
set_option maxRecDepth 100000
open Go.ChangeShapes Go.WideShapes Go.ChangeAt Go.RowKit
open Sk (Sl ints Own)
set_option linter.unusedVariables false

theorem rflag_any (b : Bool) (w : World) : Calls Tryz.prog 41 #[.bool b] w fun e w' => e = .returned (.int .i64 (Ce.flagI b)) ∧ w = w' := by
  cases b
  · go_enter Tryz.func41, Tryz.ntmps41
    go_wp2
    go_ret
    exact ⟨rfl, rfl⟩
  · go_enter Tryz.func41, Tryz.ntmps41
    go_wp2
    go_ret
    exact ⟨rfl, rfl⟩
def ValB (y : Int) (w : World) (e : Ending) (w' : World) : Prop := e = .returned (.tuple #[.int .i64 y, .bool true]) ∧ Below w.heap.size w w'
def Val (y : Int) (w : World) (e : Ending) (w' : World) : Prop := e = .returned (.int .i64 y) ∧ Below w.heap.size w w'
theorem valB {x y : Int} {w w' : World} (h : x = y) (hb : Below w.heap.size w w') : ValB y w (.returned (.tuple #[.int .i64 x, .bool true])) w' := by rw [h]; exact ⟨rfl, hb⟩
theorem drewN_below (w : World) (n : Nat) : Below w.heap.size w (w.drewN n) := Fl.below_drewN (Below.refl _ _) n
theorem max_neg (x : Int) (h : -9223372036854775808 ≤ x ∧ x ≤ 9223372036854775807) (hx : x < 0) : wrap64 (-x) = max x (wrap64 (-x)) := by unfold wrap64; omega
theorem max_pos (x : Int) (h : -9223372036854775808 ≤ x ∧ x ≤ 9223372036854775807) (hx : ¬ x < 0) : x = max x (wrap64 (-x)) := by unfold wrap64; omega
theorem div_two (x : Int) (h : -9223372036854775808 ≤ x ∧ x ≤ 9223372036854775807) : Ce.dvQ x 2 = x / 2 := by
  unfold Ce.dvQ
  rw [if_neg (by decide), Int.fdiv_eq_ediv_of_nonneg _ (by decide)]
  unfold wrap64
  omega
theorem inv_id (x : Int) (h : -9223372036854775808 ≤ x ∧ x ≤ 9223372036854775807) : wrap64 (-1 - x) = -1 - x := by unfold wrap64; omega

theorem rlone_70 (x : Int) (w : World) : Calls Tryz.prog 105 #[.int .i64 70, .int .i64 x] w (ValB (Fl.onI 110 x) w) := by
  have hR := Lib.hid (Fl.rone_any 110 x w)
  go_enter Tryz.func105, Tryz.ntmps105
  go_wp2_with (go_at_call 140; refine hR.out.mono ?_; rintro e w1 ⟨rfl, n, rfl⟩)
  go_ret2
  exact ⟨rfl, drewN_below w n⟩
theorem rlone_71 (x : Int) (w : World) : Calls Tryz.prog 105 #[.int .i64 71, .int .i64 x] w (ValB (Fl.onI 97 x) w) := by
  have hR := Lib.hid (Fl.rone_any 97 x w)
  go_enter Tryz.func105, Tryz.ntmps105
  go_wp2_with (go_at_call 140; refine hR.out.mono ?_; rintro e w1 ⟨rfl, n, rfl⟩)
  go_ret2
  exact ⟨rfl, drewN_below w n⟩
theorem rlone_72 (x : Int) (w : World) : Calls Tryz.prog 105 #[.int .i64 72, .int .i64 x] w (ValB (Fl.onI 115 x) w) := by
  have hR := Lib.hid (Fl.rone_any 115 x w)
  go_enter Tryz.func105, Tryz.ntmps105
  go_wp2_with (go_at_call 140; refine hR.out.mono ?_; rintro e w1 ⟨rfl, n, rfl⟩)
  go_ret2
  exact ⟨rfl, drewN_below w n⟩
theorem rlone_73 (x : Int) (w : World) : Calls Tryz.prog 105 #[.int .i64 73, .int .i64 x] w (ValB (Fl.onI 102 x) w) := by
  have hR := Lib.hid (Fl.rone_any 102 x w)
  go_enter Tryz.func105, Tryz.ntmps105
  go_wp2_with (go_at_call 140; refine hR.out.mono ?_; rintro e w1 ⟨rfl, n, rfl⟩)
  go_ret2
  exact ⟨rfl, drewN_below w n⟩
theorem ralo_36 (x : Int) (w : World) (hx : I64 x) : Calls Tryz.prog 44 #[.int .i64 36, .int .i64 x] w (ValB (wrap64 (x + 1)) w) := by
  clear hx
  go_enter Tryz.func44, Tryz.ntmps44
  go_wp2
  go_ret2
  exact ⟨rfl, Below.refl _ _⟩
theorem ralo_37 (x : Int) (w : World) (hx : I64 x) : Calls Tryz.prog 44 #[.int .i64 37, .int .i64 x] w (ValB (wrap64 (x - 1)) w) := by
  clear hx
  go_enter Tryz.func44, Tryz.ntmps44
  go_wp2
  go_ret2
  exact ⟨rfl, Below.refl _ _⟩
theorem ralo_38 (x : Int) (w : World) (hx : I64 x) : Calls Tryz.prog 44 #[.int .i64 38, .int .i64 x] w (ValB (wrap64 (x * 2)) w) := by
  clear hx
  go_enter Tryz.func44, Tryz.ntmps44
  go_wp2
  go_ret2
  exact valB (by rw [show x + x = x * 2 by omega]) (Below.refl _ _)
theorem ralo_39 (x : Int) (w : World) (hx : I64 x) : Calls Tryz.prog 44 #[.int .i64 39, .int .i64 x] w (ValB (x / 2) w) := by
  have hi := Lib.hid (div_two x hx)
  have hD := Lib.hid (Ce.rdiv_any x 2 w hx (by decide))
  clear hx
  go_enter Tryz.func44, Tryz.ntmps44
  go_wp2_with (go_at_call 100; (with_reducible refine hD.out.mono ?_); rintro e w1 ⟨rfl, rfl⟩)
  go_ret2
  exact valB hi.out (Below.refl _ _)
theorem ralo_40 (x : Int) (w : World) (hx : I64 x) : Calls Tryz.prog 44 #[.int .i64 40, .int .i64 x] w (ValB (wrap64 (-x)) w) := by
  clear hx
  go_enter Tryz.func44, Tryz.ntmps44
  go_wp2
  go_ret2
  exact valB (by first | rfl | (congr 1; omega)) (Below.refl _ _)
theorem ralo_41 (x : Int) (w : World) (hx : I64 x) : Calls Tryz.prog 44 #[.int .i64 41, .int .i64 x] w (ValB (max x (wrap64 (-x))) w) := by
  by_cases h : x < 0
  · have hi := Lib.hid (max_neg x hx h)
    clear hx
    go_enter Tryz.func44, Tryz.ntmps44
    go_wp2
    go_ret2
    exact valB (by rw [← hi.out]) (Below.refl _ _)
  · have hi := Lib.hid (max_pos x hx h)
    clear hx
    go_enter Tryz.func44, Tryz.ntmps44
    go_wp2
    go_ret2
    exact valB hi.out (Below.refl _ _)
theorem ralo_47 (x : Int) (w : World) (hx : I64 x) : Calls Tryz.prog 44 #[.int .i64 47, .int .i64 x] w (ValB (-1 - x) w) := by
  have hi := Lib.hid (inv_id x hx)
  clear hx
  go_enter Tryz.func44, Tryz.ntmps44
  go_wp2
  go_ret2
  exact valB hi.out (Below.refl _ _)
theorem ralo_55 (x : Int) (w : World) (hx : I64 x) : Calls Tryz.prog 44 #[.int .i64 55, .int .i64 x] w (ValB (Ce.flagI (x == 0)) w) := by
  clear hx
  go_enter Tryz.func44, Tryz.ntmps44
  go_wp2_with (go_at_call 41; (with_reducible refine (rflag_any _ _).mono ?_); rintro e w1 ⟨rfl, rfl⟩)
  go_ret2
  exact ⟨rfl, Below.refl _ _⟩
theorem ralo_56 (x : Int) (w : World) (hx : I64 x) : Calls Tryz.prog 44 #[.int .i64 56, .int .i64 x] w (ValB (Ce.flagI (decide (x < 0))) w) := by
  clear hx
  go_enter Tryz.func44, Tryz.ntmps44
  go_wp2_with (go_at_call 41; (with_reducible refine (rflag_any _ _).mono ?_); rintro e w1 ⟨rfl, rfl⟩)
  go_ret2
  exact ⟨rfl, Below.refl _ _⟩
theorem ralo_57 (x : Int) (w : World) (hx : I64 x) : Calls Tryz.prog 44 #[.int .i64 57, .int .i64 x] w (ValB (Ce.flagI (x != 0)) w) := by
  clear hx
  go_enter Tryz.func44, Tryz.ntmps44
  go_wp2_with (go_at_call 41; (with_reducible refine (rflag_any _ _).mono ?_); rintro e w1 ⟨rfl, rfl⟩)
  go_ret2
  exact ⟨rfl, Below.refl _ _⟩
theorem ralo_58 (x : Int) (w : World) (hx : I64 x) : Calls Tryz.prog 44 #[.int .i64 58, .int .i64 x] w (ValB (Ce.flagI (decide (0 < x))) w) := by
  clear hx
  go_enter Tryz.func44, Tryz.ntmps44
  go_wp2_with (go_at_call 41; (with_reducible refine (rflag_any _ _).mono ?_); rintro e w1 ⟨rfl, rfl⟩)
  go_ret2
  exact ⟨rfl, Below.refl _ _⟩
theorem ralo_62 (x : Int) (w : World) (hx : I64 x) : Calls Tryz.prog 44 #[.int .i64 62, .int .i64 x] w (ValB (wrap64 (x * 8)) w) := by
  clear hx
  go_enter Tryz.func44, Tryz.ntmps44
  go_wp2
  go_ret2
  exact valB (by rw [show 8 * x = x * 8 by omega]) (Below.refl _ _)
theorem ralo_63 (x : Int) (w : World) (hx : I64 x) : Calls Tryz.prog 44 #[.int .i64 63, .int .i64 x] w (ValB (wrap64 (x + 8)) w) := by
  clear hx
  go_enter Tryz.func44, Tryz.ntmps44
  go_wp2
  go_ret2
  exact ⟨rfl, Below.refl _ _⟩
theorem ralo_70 (x : Int) (w : World) (hx : I64 x) : Calls Tryz.prog 44 #[.int .i64 70, .int .i64 x] w (ValB (Fl.onI 110 x) w) := by
  have hR := Lib.hid (rlone_70 x w)
  clear hx
  go_enter Tryz.func44, Tryz.ntmps44
  go_wp2_with (go_at_call 105; (with_reducible refine hR.out.mono ?_); rintro e w1 ⟨rfl, hb1⟩)
  go_ret2
  exact ⟨rfl, hb1⟩
theorem ralo_71 (x : Int) (w : World) (hx : I64 x) : Calls Tryz.prog 44 #[.int .i64 71, .int .i64 x] w (ValB (Fl.onI 97 x) w) := by
  have hR := Lib.hid (rlone_71 x w)
  clear hx
  go_enter Tryz.func44, Tryz.ntmps44
  go_wp2_with (go_at_call 105; (with_reducible refine hR.out.mono ?_); rintro e w1 ⟨rfl, hb1⟩)
  go_ret2
  exact ⟨rfl, hb1⟩
theorem ralo_72 (x : Int) (w : World) (hx : I64 x) : Calls Tryz.prog 44 #[.int .i64 72, .int .i64 x] w (ValB (Fl.onI 115 x) w) := by
  have hR := Lib.hid (rlone_72 x w)
  clear hx
  go_enter Tryz.func44, Tryz.ntmps44
  go_wp2_with (go_at_call 105; (with_reducible refine hR.out.mono ?_); rintro e w1 ⟨rfl, hb1⟩)
  go_ret2
  exact ⟨rfl, hb1⟩
theorem ralo_73 (x : Int) (w : World) (hx : I64 x) : Calls Tryz.prog 44 #[.int .i64 73, .int .i64 x] w (ValB (Fl.onI 102 x) w) := by
  have hR := Lib.hid (rlone_73 x w)
  clear hx
  go_enter Tryz.func44, Tryz.ntmps44
  go_wp2_with (go_at_call 105; (with_reducible refine hR.out.mono ?_); rintro e w1 ⟨rfl, hb1⟩)
  go_ret2
  exact ⟨rfl, hb1⟩
theorem ralo_76 (x : Int) (w : World) (hx : I64 x) : Calls Tryz.prog 44 #[.int .i64 76, .int .i64 x] w (ValB (Fl.puI x) w) := by
  have hR := Lib.hid (Fl.rput_any x w)
  clear hx
  go_enter Tryz.func44, Tryz.ntmps44
  go_wp2_with (go_at_call 104; (with_reducible refine hR.out.mono ?_); rintro e w1 ⟨rfl, rfl⟩)
  go_ret2
  exact ⟨rfl, Below.refl _ _⟩
theorem rpai_28 (x y : Int) (w : World) (hx : I64 x) (hy : I64 y) : Calls Tryz.prog 45 #[.int .i64 28, .int .i64 x, .int .i64 y] w (Val (wrap64 (x + y)) w) := by
  clear hx hy
  go_enter Tryz.func45, Tryz.ntmps45
  go_wp2
  go_ret
  exact ⟨rfl, Below.refl _ _⟩
theorem rpai_29 (x y : Int) (w : World) (hx : I64 x) (hy : I64 y) : Calls Tryz.prog 45 #[.int .i64 29, .int .i64 x, .int .i64 y] w (Val (wrap64 (x - y)) w) := by
  clear hx hy
  go_enter Tryz.func45, Tryz.ntmps45
  go_wp2
  go_ret
  exact ⟨rfl, Below.refl _ _⟩
theorem rpai_30 (x y : Int) (w : World) (hx : I64 x) (hy : I64 y) : Calls Tryz.prog 45 #[.int .i64 30, .int .i64 x, .int .i64 y] w (Val (wrap64 (x * y)) w) := by
  clear hx hy
  go_enter Tryz.func45, Tryz.ntmps45
  go_wp2
  go_ret
  exact ⟨rfl, Below.refl _ _⟩
theorem rpai_42 (x y : Int) (w : World) (hx : I64 x) (hy : I64 y) : Calls Tryz.prog 45 #[.int .i64 42, .int .i64 x, .int .i64 y] w (Val (min x y) w) := by
  clear hx hy
  go_enter Tryz.func45, Tryz.ntmps45
  go_wp2
  go_ret
  exact ⟨rfl, Below.refl _ _⟩
theorem rpai_43 (x y : Int) (w : World) (hx : I64 x) (hy : I64 y) : Calls Tryz.prog 45 #[.int .i64 43, .int .i64 x, .int .i64 y] w (Val (max x y) w) := by
  clear hx hy
  go_enter Tryz.func45, Tryz.ntmps45
  go_wp2
  go_ret
  exact ⟨rfl, Below.refl _ _⟩
theorem rpai_44 (x y : Int) (w : World) (hx : I64 x) (hy : I64 y) : Calls Tryz.prog 45 #[.int .i64 44, .int .i64 x, .int .i64 y] w (Val (bits .and .i64 x y) w) := by
  clear hx hy
  go_enter Tryz.func45, Tryz.ntmps45
  go_wp2
  go_ret
  exact ⟨rfl, Below.refl _ _⟩
theorem rpai_45 (x y : Int) (w : World) (hx : I64 x) (hy : I64 y) : Calls Tryz.prog 45 #[.int .i64 45, .int .i64 x, .int .i64 y] w (Val (bits .or .i64 x y) w) := by
  clear hx hy
  go_enter Tryz.func45, Tryz.ntmps45
  go_wp2
  go_ret
  exact ⟨rfl, Below.refl _ _⟩
theorem rpai_46 (x y : Int) (w : World) (hx : I64 x) (hy : I64 y) : Calls Tryz.prog 45 #[.int .i64 46, .int .i64 x, .int .i64 y] w (Val (bits .xor .i64 x y) w) := by
  clear hx hy
  go_enter Tryz.func45, Tryz.ntmps45
  go_wp2
  go_ret
  exact ⟨rfl, Below.refl _ _⟩
theorem rpai_48 (x y : Int) (w : World) (hx : I64 x) (hy : I64 y) : Calls Tryz.prog 45 #[.int .i64 48, .int .i64 x, .int .i64 y] w (Val (Ce.lshI x y) w) := by
  have hR := Lib.hid (Ce.rleft_any x y w hx hy)
  clear hx hy
  go_enter Tryz.func45, Tryz.ntmps45
  go_wp2_with (go_at_call 106; (with_reducible refine hR.out.mono ?_); rintro e w1 ⟨rfl, rfl⟩)
  go_ret
  exact ⟨rfl, Below.refl _ _⟩
theorem rpai_49 (x y : Int) (w : World) (hx : I64 x) (hy : I64 y) : Calls Tryz.prog 45 #[.int .i64 49, .int .i64 x, .int .i64 y] w (Val (Ce.rshI x y) w) := by
  have hR := Lib.hid (Ce.rright_any x y w hy)
  clear hx hy
  go_enter Tryz.func45, Tryz.ntmps45
  go_wp2_with (go_at_call 107; (with_reducible refine hR.out.mono ?_); rintro e w1 ⟨rfl, rfl⟩)
  go_ret
  exact ⟨rfl, Below.refl _ _⟩
theorem rpai_50 (x y : Int) (w : World) (hx : I64 x) (hy : I64 y) : Calls Tryz.prog 45 #[.int .i64 50, .int .i64 x, .int .i64 y] w (Val (Ce.flagI (x == y)) w) := by
  clear hx hy
  go_enter Tryz.func45, Tryz.ntmps45
  go_wp2_with (go_at_call 41; (with_reducible refine (rflag_any _ _).mono ?_); rintro e w2 ⟨rfl, rfl⟩)
  go_ret
  exact ⟨rfl, Below.refl _ _⟩
theorem rpai_51 (x y : Int) (w : World) (hx : I64 x) (hy : I64 y) : Calls Tryz.prog 45 #[.int .i64 51, .int .i64 x, .int .i64 y] w (Val (Ce.flagI (x != y)) w) := by
  clear hx hy
  go_enter Tryz.func45, Tryz.ntmps45
  go_wp2_with (go_at_call 41; (with_reducible refine (rflag_any _ _).mono ?_); rintro e w2 ⟨rfl, rfl⟩)
  go_ret
  exact ⟨rfl, Below.refl _ _⟩
theorem rpai_52 (x y : Int) (w : World) (hx : I64 x) (hy : I64 y) : Calls Tryz.prog 45 #[.int .i64 52, .int .i64 x, .int .i64 y] w (Val (Ce.flagI (decide (x < y))) w) := by
  clear hx hy
  go_enter Tryz.func45, Tryz.ntmps45
  go_wp2_with (go_at_call 41; (with_reducible refine (rflag_any _ _).mono ?_); rintro e w2 ⟨rfl, rfl⟩)
  go_ret
  exact ⟨rfl, Below.refl _ _⟩
theorem rpai_53 (x y : Int) (w : World) (hx : I64 x) (hy : I64 y) : Calls Tryz.prog 45 #[.int .i64 53, .int .i64 x, .int .i64 y] w (Val (Ce.flagI (decide (y < x))) w) := by
  clear hx hy
  go_enter Tryz.func45, Tryz.ntmps45
  go_wp2_with (go_at_call 41; (with_reducible refine (rflag_any _ _).mono ?_); rintro e w2 ⟨rfl, rfl⟩)
  go_ret
  exact ⟨rfl, Below.refl _ _⟩
theorem rpai_54 (x y : Int) (w : World) (hx : I64 x) (hy : I64 y) : Calls Tryz.prog 45 #[.int .i64 54, .int .i64 x, .int .i64 y] w (Val (Ce.flagI (Ce.belB x y)) w) := by
  have hR := Lib.hid (Ce.rbelow_any x y w hx hy)
  clear hx hy
  go_enter Tryz.func45, Tryz.ntmps45
  go_wp2_with (first | (go_at_call 42; (with_reducible refine hR.out.mono ?_); rintro e w1 ⟨rfl, rfl⟩) | (go_at_call 41; (with_reducible refine (rflag_any _ _).mono ?_); rintro e w2 ⟨rfl, rfl⟩))
  go_ret
  exact ⟨rfl, Below.refl _ _⟩
theorem rpai_64 (x y : Int) (w : World) (hx : I64 x) (hy : I64 y) : Calls Tryz.prog 45 #[.int .i64 64, .int .i64 x, .int .i64 y] w (Val (Fl.twI 43 x y) w) := by
  have hR := Lib.hid (Fl.rtwo_any 43 x y w hx hy)
  clear hx hy
  go_enter Tryz.func45, Tryz.ntmps45
  go_wp2_with (go_at_call 110; refine hR.out.mono ?_; rintro e w1 ⟨rfl, n, rfl⟩)
  go_ret
  exact ⟨rfl, drewN_below w n⟩
theorem rpai_65 (x y : Int) (w : World) (hx : I64 x) (hy : I64 y) : Calls Tryz.prog 45 #[.int .i64 65, .int .i64 x, .int .i64 y] w (Val (Fl.twI 45 x y) w) := by
  have hR := Lib.hid (Fl.rtwo_any 45 x y w hx hy)
  clear hx hy
  go_enter Tryz.func45, Tryz.ntmps45
  go_wp2_with (go_at_call 110; refine hR.out.mono ?_; rintro e w1 ⟨rfl, n, rfl⟩)
  go_ret
  exact ⟨rfl, drewN_below w n⟩
theorem rpai_66 (x y : Int) (w : World) (hx : I64 x) (hy : I64 y) : Calls Tryz.prog 45 #[.int .i64 66, .int .i64 x, .int .i64 y] w (Val (Fl.twI 42 x y) w) := by
  have hR := Lib.hid (Fl.rtwo_any 42 x y w hx hy)
  clear hx hy
  go_enter Tryz.func45, Tryz.ntmps45
  go_wp2_with (go_at_call 110; refine hR.out.mono ?_; rintro e w1 ⟨rfl, n, rfl⟩)
  go_ret
  exact ⟨rfl, drewN_below w n⟩
theorem rpai_67 (x y : Int) (w : World) (hx : I64 x) (hy : I64 y) : Calls Tryz.prog 45 #[.int .i64 67, .int .i64 x, .int .i64 y] w (Val (Fl.twI 47 x y) w) := by
  have hR := Lib.hid (Fl.rtwo_any 47 x y w hx hy)
  clear hx hy
  go_enter Tryz.func45, Tryz.ntmps45
  go_wp2_with (go_at_call 110; refine hR.out.mono ?_; rintro e w1 ⟨rfl, n, rfl⟩)
  go_ret
  exact ⟨rfl, drewN_below w n⟩
theorem rpai_68 (x y : Int) (w : World) (hx : I64 x) (hy : I64 y) : Calls Tryz.prog 45 #[.int .i64 68, .int .i64 x, .int .i64 y] w (Val (Fl.twI 109 x y) w) := by
  have hR := Lib.hid (Fl.rtwo_any 109 x y w hx hy)
  clear hx hy
  go_enter Tryz.func45, Tryz.ntmps45
  go_wp2_with (go_at_call 110; refine hR.out.mono ?_; rintro e w1 ⟨rfl, n, rfl⟩)
  go_ret
  exact ⟨rfl, drewN_below w n⟩
theorem rpai_69 (x y : Int) (w : World) (hx : I64 x) (hy : I64 y) : Calls Tryz.prog 45 #[.int .i64 69, .int .i64 x, .int .i64 y] w (Val (Fl.twI 77 x y) w) := by
  have hR := Lib.hid (Fl.rtwo_any 77 x y w hx hy)
  clear hx hy
  go_enter Tryz.func45, Tryz.ntmps45
  go_wp2_with (go_at_call 110; refine hR.out.mono ?_; rintro e w1 ⟨rfl, n, rfl⟩)
  go_ret
  exact ⟨rfl, drewN_below w n⟩
theorem rpai_74 (x y : Int) (w : World) (hx : I64 x) (hy : I64 y) : Calls Tryz.prog 45 #[.int .i64 74, .int .i64 x, .int .i64 y] w (Val (Ce.flagI (Fl.ltB (Fl.cb x) (Fl.cb y))) w) := by
  have hR := Lib.hid (Fl.rless_any x y w)
  clear hx hy
  go_enter Tryz.func45, Tryz.ntmps45
  go_wp2_with (first | (go_at_call 108; (with_reducible refine hR.out.mono ?_); rintro e w1 ⟨rfl, rfl⟩) | (go_at_call 41; (with_reducible refine (rflag_any _ _).mono ?_); rintro e w2 ⟨rfl, rfl⟩))
  go_ret
  exact ⟨rfl, Below.refl _ _⟩
theorem rpai_75 (x y : Int) (w : World) (hx : I64 x) (hy : I64 y) : Calls Tryz.prog 45 #[.int .i64 75, .int .i64 x, .int .i64 y] w (Val (Ce.flagI (Fl.eqB (Fl.cb x) (Fl.cb y))) w) := by
  have hR := Lib.hid (Fl.rsame_any x y w)
  clear hx hy
  go_enter Tryz.func45, Tryz.ntmps45
  go_wp2_with (first | (go_at_call 109; (with_reducible refine hR.out.mono ?_); rintro e w1 ⟨rfl, rfl⟩) | (go_at_call 41; (with_reducible refine (rflag_any _ _).mono ?_); rintro e w2 ⟨rfl, rfl⟩))
  go_ret
  exact ⟨rfl, Below.refl _ _⟩
end Go.Proofs.YtobijdfnafnodaaGreatDoor
