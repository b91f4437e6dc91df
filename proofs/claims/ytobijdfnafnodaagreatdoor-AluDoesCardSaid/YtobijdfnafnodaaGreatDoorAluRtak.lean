/- How many values the document's words take. Written by wip/gen/aluref.py. -/
import Derived.Test.YtobijdfnafnodaaGreatDoorAluPhi
namespace Go.Proofs.YtobijdfnafnodaaGreatDoor
set_option maxRecDepth 100000
open Go.ChangeShapes Go.WideShapes Go.ChangeAt Go.RowKit
open Sk (Sl ints Own)
set_option linter.unusedVariables false

theorem rtak_13 (w : World) : Calls Tryz.prog 21 #[.int .i64 13] w (fun e w' => e = .returned (.int .i64 1) ∧ w = w') := by
  go_enter Tryz.func21, Tryz.ntmps21
  go_wp2
  go_ret
  exact ⟨rfl, rfl⟩
theorem rtak_14 (w : World) : Calls Tryz.prog 21 #[.int .i64 14] w (fun e w' => e = .returned (.int .i64 1) ∧ w = w') := by
  go_enter Tryz.func21, Tryz.ntmps21
  go_wp2
  go_ret
  exact ⟨rfl, rfl⟩
theorem rtak_15 (w : World) : Calls Tryz.prog 21 #[.int .i64 15] w (fun e w' => e = .returned (.int .i64 2) ∧ w = w') := by
  go_enter Tryz.func21, Tryz.ntmps21
  go_wp2
  go_ret
  exact ⟨rfl, rfl⟩
theorem rtak_16 (w : World) : Calls Tryz.prog 21 #[.int .i64 16] w (fun e w' => e = .returned (.int .i64 2) ∧ w = w') := by
  go_enter Tryz.func21, Tryz.ntmps21
  go_wp2
  go_ret
  exact ⟨rfl, rfl⟩
theorem rtak_17 (w : World) : Calls Tryz.prog 21 #[.int .i64 17] w (fun e w' => e = .returned (.int .i64 3) ∧ w = w') := by
  go_enter Tryz.func21, Tryz.ntmps21
  go_wp2
  go_ret
  exact ⟨rfl, rfl⟩
theorem rtak_18 (w : World) : Calls Tryz.prog 21 #[.int .i64 18] w (fun e w' => e = .returned (.int .i64 2) ∧ w = w') := by
  go_enter Tryz.func21, Tryz.ntmps21
  go_wp2
  go_ret
  exact ⟨rfl, rfl⟩
theorem rtak_19 (w : World) : Calls Tryz.prog 21 #[.int .i64 19] w (fun e w' => e = .returned (.int .i64 2) ∧ w = w') := by
  go_enter Tryz.func21, Tryz.ntmps21
  go_wp2
  go_ret
  exact ⟨rfl, rfl⟩
theorem rtak_20 (w : World) : Calls Tryz.prog 21 #[.int .i64 20] w (fun e w' => e = .returned (.int .i64 1) ∧ w = w') := by
  go_enter Tryz.func21, Tryz.ntmps21
  go_wp2
  go_ret
  exact ⟨rfl, rfl⟩
theorem rtak_21 (w : World) : Calls Tryz.prog 21 #[.int .i64 21] w (fun e w' => e = .returned (.int .i64 2) ∧ w = w') := by
  go_enter Tryz.func21, Tryz.ntmps21
  go_wp2
  go_ret
  exact ⟨rfl, rfl⟩
theorem rtak_22 (w : World) : Calls Tryz.prog 21 #[.int .i64 22] w (fun e w' => e = .returned (.int .i64 2) ∧ w = w') := by
  go_enter Tryz.func21, Tryz.ntmps21
  go_wp2
  go_ret
  exact ⟨rfl, rfl⟩
theorem rtak_23 (w : World) : Calls Tryz.prog 21 #[.int .i64 23] w (fun e w' => e = .returned (.int .i64 4) ∧ w = w') := by
  go_enter Tryz.func21, Tryz.ntmps21
  go_wp2
  go_ret
  exact ⟨rfl, rfl⟩
theorem rtak_24 (w : World) : Calls Tryz.prog 21 #[.int .i64 24] w (fun e w' => e = .returned (.int .i64 4) ∧ w = w') := by
  go_enter Tryz.func21, Tryz.ntmps21
  go_wp2
  go_ret
  exact ⟨rfl, rfl⟩
theorem rtak_25 (w : World) : Calls Tryz.prog 21 #[.int .i64 25] w (fun e w' => e = .returned (.int .i64 1) ∧ w = w') := by
  go_enter Tryz.func21, Tryz.ntmps21
  go_wp2
  go_ret
  exact ⟨rfl, rfl⟩
theorem rtak_26 (w : World) : Calls Tryz.prog 21 #[.int .i64 26] w (fun e w' => e = .returned (.int .i64 1) ∧ w = w') := by
  go_enter Tryz.func21, Tryz.ntmps21
  go_wp2
  go_ret
  exact ⟨rfl, rfl⟩
theorem rtak_27 (w : World) : Calls Tryz.prog 21 #[.int .i64 27] w (fun e w' => e = .returned (.int .i64 0) ∧ w = w') := by
  go_enter Tryz.func21, Tryz.ntmps21
  go_wp2
  go_ret
  exact ⟨rfl, rfl⟩
theorem rtak_28 (w : World) : Calls Tryz.prog 21 #[.int .i64 28] w (fun e w' => e = .returned (.int .i64 2) ∧ w = w') := by
  go_enter Tryz.func21, Tryz.ntmps21
  go_wp2
  go_ret
  exact ⟨rfl, rfl⟩
theorem rtak_29 (w : World) : Calls Tryz.prog 21 #[.int .i64 29] w (fun e w' => e = .returned (.int .i64 2) ∧ w = w') := by
  go_enter Tryz.func21, Tryz.ntmps21
  go_wp2
  go_ret
  exact ⟨rfl, rfl⟩
theorem rtak_30 (w : World) : Calls Tryz.prog 21 #[.int .i64 30] w (fun e w' => e = .returned (.int .i64 2) ∧ w = w') := by
  go_enter Tryz.func21, Tryz.ntmps21
  go_wp2
  go_ret
  exact ⟨rfl, rfl⟩
theorem rtak_31 (w : World) : Calls Tryz.prog 21 #[.int .i64 31] w (fun e w' => e = .returned (.int .i64 2) ∧ w = w') := by
  go_enter Tryz.func21, Tryz.ntmps21
  go_wp2
  go_ret
  exact ⟨rfl, rfl⟩
theorem rtak_32 (w : World) : Calls Tryz.prog 21 #[.int .i64 32] w (fun e w' => e = .returned (.int .i64 2) ∧ w = w') := by
  go_enter Tryz.func21, Tryz.ntmps21
  go_wp2
  go_ret
  exact ⟨rfl, rfl⟩
theorem rtak_33 (w : World) : Calls Tryz.prog 21 #[.int .i64 33] w (fun e w' => e = .returned (.int .i64 2) ∧ w = w') := by
  go_enter Tryz.func21, Tryz.ntmps21
  go_wp2
  go_ret
  exact ⟨rfl, rfl⟩
theorem rtak_34 (w : World) : Calls Tryz.prog 21 #[.int .i64 34] w (fun e w' => e = .returned (.int .i64 3) ∧ w = w') := by
  go_enter Tryz.func21, Tryz.ntmps21
  go_wp2
  go_ret
  exact ⟨rfl, rfl⟩
theorem rtak_35 (w : World) : Calls Tryz.prog 21 #[.int .i64 35] w (fun e w' => e = .returned (.int .i64 3) ∧ w = w') := by
  go_enter Tryz.func21, Tryz.ntmps21
  go_wp2
  go_ret
  exact ⟨rfl, rfl⟩
theorem rtak_36 (w : World) : Calls Tryz.prog 21 #[.int .i64 36] w (fun e w' => e = .returned (.int .i64 1) ∧ w = w') := by
  go_enter Tryz.func21, Tryz.ntmps21
  go_wp2
  go_ret
  exact ⟨rfl, rfl⟩
theorem rtak_37 (w : World) : Calls Tryz.prog 21 #[.int .i64 37] w (fun e w' => e = .returned (.int .i64 1) ∧ w = w') := by
  go_enter Tryz.func21, Tryz.ntmps21
  go_wp2
  go_ret
  exact ⟨rfl, rfl⟩
theorem rtak_38 (w : World) : Calls Tryz.prog 21 #[.int .i64 38] w (fun e w' => e = .returned (.int .i64 1) ∧ w = w') := by
  go_enter Tryz.func21, Tryz.ntmps21
  go_wp2
  go_ret
  exact ⟨rfl, rfl⟩
theorem rtak_39 (w : World) : Calls Tryz.prog 21 #[.int .i64 39] w (fun e w' => e = .returned (.int .i64 1) ∧ w = w') := by
  go_enter Tryz.func21, Tryz.ntmps21
  go_wp2
  go_ret
  exact ⟨rfl, rfl⟩
theorem rtak_40 (w : World) : Calls Tryz.prog 21 #[.int .i64 40] w (fun e w' => e = .returned (.int .i64 1) ∧ w = w') := by
  go_enter Tryz.func21, Tryz.ntmps21
  go_wp2
  go_ret
  exact ⟨rfl, rfl⟩
theorem rtak_41 (w : World) : Calls Tryz.prog 21 #[.int .i64 41] w (fun e w' => e = .returned (.int .i64 1) ∧ w = w') := by
  go_enter Tryz.func21, Tryz.ntmps21
  go_wp2
  go_ret
  exact ⟨rfl, rfl⟩
theorem rtak_42 (w : World) : Calls Tryz.prog 21 #[.int .i64 42] w (fun e w' => e = .returned (.int .i64 2) ∧ w = w') := by
  go_enter Tryz.func21, Tryz.ntmps21
  go_wp2
  go_ret
  exact ⟨rfl, rfl⟩
theorem rtak_43 (w : World) : Calls Tryz.prog 21 #[.int .i64 43] w (fun e w' => e = .returned (.int .i64 2) ∧ w = w') := by
  go_enter Tryz.func21, Tryz.ntmps21
  go_wp2
  go_ret
  exact ⟨rfl, rfl⟩
theorem rtak_44 (w : World) : Calls Tryz.prog 21 #[.int .i64 44] w (fun e w' => e = .returned (.int .i64 2) ∧ w = w') := by
  go_enter Tryz.func21, Tryz.ntmps21
  go_wp2
  go_ret
  exact ⟨rfl, rfl⟩
theorem rtak_45 (w : World) : Calls Tryz.prog 21 #[.int .i64 45] w (fun e w' => e = .returned (.int .i64 2) ∧ w = w') := by
  go_enter Tryz.func21, Tryz.ntmps21
  go_wp2
  go_ret
  exact ⟨rfl, rfl⟩
theorem rtak_46 (w : World) : Calls Tryz.prog 21 #[.int .i64 46] w (fun e w' => e = .returned (.int .i64 2) ∧ w = w') := by
  go_enter Tryz.func21, Tryz.ntmps21
  go_wp2
  go_ret
  exact ⟨rfl, rfl⟩
theorem rtak_47 (w : World) : Calls Tryz.prog 21 #[.int .i64 47] w (fun e w' => e = .returned (.int .i64 1) ∧ w = w') := by
  go_enter Tryz.func21, Tryz.ntmps21
  go_wp2
  go_ret
  exact ⟨rfl, rfl⟩
theorem rtak_48 (w : World) : Calls Tryz.prog 21 #[.int .i64 48] w (fun e w' => e = .returned (.int .i64 2) ∧ w = w') := by
  go_enter Tryz.func21, Tryz.ntmps21
  go_wp2
  go_ret
  exact ⟨rfl, rfl⟩
theorem rtak_49 (w : World) : Calls Tryz.prog 21 #[.int .i64 49] w (fun e w' => e = .returned (.int .i64 2) ∧ w = w') := by
  go_enter Tryz.func21, Tryz.ntmps21
  go_wp2
  go_ret
  exact ⟨rfl, rfl⟩
theorem rtak_50 (w : World) : Calls Tryz.prog 21 #[.int .i64 50] w (fun e w' => e = .returned (.int .i64 2) ∧ w = w') := by
  go_enter Tryz.func21, Tryz.ntmps21
  go_wp2
  go_ret
  exact ⟨rfl, rfl⟩
theorem rtak_51 (w : World) : Calls Tryz.prog 21 #[.int .i64 51] w (fun e w' => e = .returned (.int .i64 2) ∧ w = w') := by
  go_enter Tryz.func21, Tryz.ntmps21
  go_wp2
  go_ret
  exact ⟨rfl, rfl⟩
theorem rtak_52 (w : World) : Calls Tryz.prog 21 #[.int .i64 52] w (fun e w' => e = .returned (.int .i64 2) ∧ w = w') := by
  go_enter Tryz.func21, Tryz.ntmps21
  go_wp2
  go_ret
  exact ⟨rfl, rfl⟩
theorem rtak_53 (w : World) : Calls Tryz.prog 21 #[.int .i64 53] w (fun e w' => e = .returned (.int .i64 2) ∧ w = w') := by
  go_enter Tryz.func21, Tryz.ntmps21
  go_wp2
  go_ret
  exact ⟨rfl, rfl⟩
theorem rtak_54 (w : World) : Calls Tryz.prog 21 #[.int .i64 54] w (fun e w' => e = .returned (.int .i64 2) ∧ w = w') := by
  go_enter Tryz.func21, Tryz.ntmps21
  go_wp2
  go_ret
  exact ⟨rfl, rfl⟩
theorem rtak_55 (w : World) : Calls Tryz.prog 21 #[.int .i64 55] w (fun e w' => e = .returned (.int .i64 1) ∧ w = w') := by
  go_enter Tryz.func21, Tryz.ntmps21
  go_wp2
  go_ret
  exact ⟨rfl, rfl⟩
theorem rtak_56 (w : World) : Calls Tryz.prog 21 #[.int .i64 56] w (fun e w' => e = .returned (.int .i64 1) ∧ w = w') := by
  go_enter Tryz.func21, Tryz.ntmps21
  go_wp2
  go_ret
  exact ⟨rfl, rfl⟩
theorem rtak_57 (w : World) : Calls Tryz.prog 21 #[.int .i64 57] w (fun e w' => e = .returned (.int .i64 1) ∧ w = w') := by
  go_enter Tryz.func21, Tryz.ntmps21
  go_wp2
  go_ret
  exact ⟨rfl, rfl⟩
theorem rtak_58 (w : World) : Calls Tryz.prog 21 #[.int .i64 58] w (fun e w' => e = .returned (.int .i64 1) ∧ w = w') := by
  go_enter Tryz.func21, Tryz.ntmps21
  go_wp2
  go_ret
  exact ⟨rfl, rfl⟩
theorem rtak_59 (w : World) : Calls Tryz.prog 21 #[.int .i64 59] w (fun e w' => e = .returned (.int .i64 3) ∧ w = w') := by
  go_enter Tryz.func21, Tryz.ntmps21
  go_wp2
  go_ret
  exact ⟨rfl, rfl⟩
theorem rtak_60 (w : World) : Calls Tryz.prog 21 #[.int .i64 60] w (fun e w' => e = .returned (.int .i64 0) ∧ w = w') := by
  go_enter Tryz.func21, Tryz.ntmps21
  go_wp2
  go_ret
  exact ⟨rfl, rfl⟩
theorem rtak_61 (w : World) : Calls Tryz.prog 21 #[.int .i64 61] w (fun e w' => e = .returned (.int .i64 0) ∧ w = w') := by
  go_enter Tryz.func21, Tryz.ntmps21
  go_wp2
  go_ret
  exact ⟨rfl, rfl⟩
theorem rtak_62 (w : World) : Calls Tryz.prog 21 #[.int .i64 62] w (fun e w' => e = .returned (.int .i64 1) ∧ w = w') := by
  go_enter Tryz.func21, Tryz.ntmps21
  go_wp2
  go_ret
  exact ⟨rfl, rfl⟩
theorem rtak_63 (w : World) : Calls Tryz.prog 21 #[.int .i64 63] w (fun e w' => e = .returned (.int .i64 1) ∧ w = w') := by
  go_enter Tryz.func21, Tryz.ntmps21
  go_wp2
  go_ret
  exact ⟨rfl, rfl⟩
theorem rtak_64 (w : World) : Calls Tryz.prog 21 #[.int .i64 64] w (fun e w' => e = .returned (.int .i64 2) ∧ w = w') := by
  go_enter Tryz.func21, Tryz.ntmps21
  go_wp2
  go_ret
  exact ⟨rfl, rfl⟩
theorem rtak_65 (w : World) : Calls Tryz.prog 21 #[.int .i64 65] w (fun e w' => e = .returned (.int .i64 2) ∧ w = w') := by
  go_enter Tryz.func21, Tryz.ntmps21
  go_wp2
  go_ret
  exact ⟨rfl, rfl⟩
theorem rtak_66 (w : World) : Calls Tryz.prog 21 #[.int .i64 66] w (fun e w' => e = .returned (.int .i64 2) ∧ w = w') := by
  go_enter Tryz.func21, Tryz.ntmps21
  go_wp2
  go_ret
  exact ⟨rfl, rfl⟩
theorem rtak_67 (w : World) : Calls Tryz.prog 21 #[.int .i64 67] w (fun e w' => e = .returned (.int .i64 2) ∧ w = w') := by
  go_enter Tryz.func21, Tryz.ntmps21
  go_wp2
  go_ret
  exact ⟨rfl, rfl⟩
theorem rtak_68 (w : World) : Calls Tryz.prog 21 #[.int .i64 68] w (fun e w' => e = .returned (.int .i64 2) ∧ w = w') := by
  go_enter Tryz.func21, Tryz.ntmps21
  go_wp2
  go_ret
  exact ⟨rfl, rfl⟩
theorem rtak_69 (w : World) : Calls Tryz.prog 21 #[.int .i64 69] w (fun e w' => e = .returned (.int .i64 2) ∧ w = w') := by
  go_enter Tryz.func21, Tryz.ntmps21
  go_wp2
  go_ret
  exact ⟨rfl, rfl⟩
theorem rtak_70 (w : World) : Calls Tryz.prog 21 #[.int .i64 70] w (fun e w' => e = .returned (.int .i64 1) ∧ w = w') := by
  go_enter Tryz.func21, Tryz.ntmps21
  go_wp2
  go_ret
  exact ⟨rfl, rfl⟩
theorem rtak_71 (w : World) : Calls Tryz.prog 21 #[.int .i64 71] w (fun e w' => e = .returned (.int .i64 1) ∧ w = w') := by
  go_enter Tryz.func21, Tryz.ntmps21
  go_wp2
  go_ret
  exact ⟨rfl, rfl⟩
theorem rtak_72 (w : World) : Calls Tryz.prog 21 #[.int .i64 72] w (fun e w' => e = .returned (.int .i64 1) ∧ w = w') := by
  go_enter Tryz.func21, Tryz.ntmps21
  go_wp2
  go_ret
  exact ⟨rfl, rfl⟩
theorem rtak_73 (w : World) : Calls Tryz.prog 21 #[.int .i64 73] w (fun e w' => e = .returned (.int .i64 1) ∧ w = w') := by
  go_enter Tryz.func21, Tryz.ntmps21
  go_wp2
  go_ret
  exact ⟨rfl, rfl⟩
theorem rtak_74 (w : World) : Calls Tryz.prog 21 #[.int .i64 74] w (fun e w' => e = .returned (.int .i64 2) ∧ w = w') := by
  go_enter Tryz.func21, Tryz.ntmps21
  go_wp2
  go_ret
  exact ⟨rfl, rfl⟩
theorem rtak_75 (w : World) : Calls Tryz.prog 21 #[.int .i64 75] w (fun e w' => e = .returned (.int .i64 2) ∧ w = w') := by
  go_enter Tryz.func21, Tryz.ntmps21
  go_wp2
  go_ret
  exact ⟨rfl, rfl⟩
theorem rtak_76 (w : World) : Calls Tryz.prog 21 #[.int .i64 76] w (fun e w' => e = .returned (.int .i64 1) ∧ w = w') := by
  go_enter Tryz.func21, Tryz.ntmps21
  go_wp2
  go_ret
  exact ⟨rfl, rfl⟩
theorem rtak_77 (w : World) : Calls Tryz.prog 21 #[.int .i64 77] w (fun e w' => e = .returned (.int .i64 1) ∧ w = w') := by
  go_enter Tryz.func21, Tryz.ntmps21
  go_wp2
  go_ret
  exact ⟨rfl, rfl⟩
theorem rtak_no (op : Int) (w : World) (h : ¬ (13 ≤ op ∧ op ≤ 77)) : Calls Tryz.prog 21 #[.int .i64 op] w (fun e w' => e = .returned (.int .i64 (-1)) ∧ w = w') := by
  by_cases h1 : op < 13
  · clear h
    go_enter Tryz.func21, Tryz.ntmps21
    go_wp2
    go_ret
    exact ⟨rfl, rfl⟩
  · have h2 : 77 < op := by omega
    clear h
    go_enter Tryz.func21, Tryz.ntmps21
    go_wp2
    go_ret
    exact ⟨rfl, rfl⟩
end Go.Proofs.YtobijdfnafnodaaGreatDoor
