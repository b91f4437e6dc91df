/- The words by their numbers. Written by wip/gen/aluref.py. -/
import Derived.Test.YtobijdfnafnodaaGreatDoorAluDo2
namespace Go.Proofs.YtobijdfnafnodaaGreatDoor
set_option maxRecDepth 100000
open Go.ChangeShapes Go.WideShapes Go.ChangeAt Go.RowKit
open Sk (Sl ints Own)
set_option linter.unusedVariables false

abbrev ph_13 : Phi := layW 1 [0, 0]
abbrev ph_14 : Phi := layW 1 []
abbrev ph_15 : Phi := layW 2 [1, 0]
abbrev ph_16 : Phi := layW 2 [0, 1, 0]
abbrev ph_17 : Phi := layW 3 [1, 2, 0]
abbrev ph_18 : Phi := layW 2 [1]
abbrev ph_19 : Phi := layW 2 [1, 0, 1]
abbrev ph_20 : Phi := tk 1 twiG
abbrev ph_21 : Phi := layW 2 [0, 1, 0, 1]
abbrev ph_22 : Phi := layW 2 []
abbrev ph_23 : Phi := layW 4 [2, 3, 0, 1]
abbrev ph_24 : Phi := layW 4 [0, 1, 2, 3, 0, 1]
abbrev ph_25 : Phi := pickF
abbrev ph_26 : Phi := rollF
abbrev ph_27 : Phi := highF
abbrev ph_28 : Phi := twoW (fun x y => wrap64 (x + y))
abbrev ph_29 : Phi := twoW (fun x y => wrap64 (x - y))
abbrev ph_30 : Phi := twoW (fun x y => wrap64 (x * y))
abbrev ph_31 : Phi := tk 2 (divG [1])
abbrev ph_32 : Phi := tk 2 (divG [0])
abbrev ph_33 : Phi := tk 2 (divG [0, 1])
abbrev ph_34 : Phi := tk 3 (scaG [1])
abbrev ph_35 : Phi := tk 3 (scaG [0, 1])
abbrev ph_36 : Phi := oneW (fun x => .ok (wrap64 (x + 1)))
abbrev ph_37 : Phi := oneW (fun x => .ok (wrap64 (x - 1)))
abbrev ph_38 : Phi := oneW (fun x => .ok (wrap64 (x * 2)))
abbrev ph_39 : Phi := oneW (fun x => .ok (x / 2))
abbrev ph_40 : Phi := oneW (fun x => .ok (wrap64 (-x)))
abbrev ph_41 : Phi := oneW (fun x => .ok (max x (wrap64 (-x))))
abbrev ph_42 : Phi := twoW (fun x y => min x y)
abbrev ph_43 : Phi := twoW (fun x y => max x y)
abbrev ph_44 : Phi := twoW (fun x y => bits .and .i64 x y)
abbrev ph_45 : Phi := twoW (fun x y => bits .or .i64 x y)
abbrev ph_46 : Phi := twoW (fun x y => bits .xor .i64 x y)
abbrev ph_47 : Phi := oneW (fun x => .ok (-1 - x))
abbrev ph_48 : Phi := twoW Ce.lshI
abbrev ph_49 : Phi := twoW Ce.rshI
abbrev ph_50 : Phi := atW (fun x y => x == y)
abbrev ph_51 : Phi := atW (fun x y => x != y)
abbrev ph_52 : Phi := atW (fun x y => decide (x < y))
abbrev ph_53 : Phi := atW (fun x y => decide (y < x))
abbrev ph_54 : Phi := atW Ce.belB
abbrev ph_55 : Phi := aoW (fun x => x == 0)
abbrev ph_56 : Phi := aoW (fun x => decide (x < 0))
abbrev ph_57 : Phi := aoW (fun x => x != 0)
abbrev ph_58 : Phi := aoW (fun x => decide (0 < x))
abbrev ph_59 : Phi := asW 3 witB
abbrev ph_60 : Phi := asW 0 (fun _ => true)
abbrev ph_61 : Phi := asW 0 (fun _ => false)
abbrev ph_62 : Phi := oneW (fun x => .ok (wrap64 (x * 8)))
abbrev ph_63 : Phi := oneW (fun x => .ok (wrap64 (x + 8)))
abbrev ph_64 : Phi := twoW (Fl.twI 43)
abbrev ph_65 : Phi := twoW (Fl.twI 45)
abbrev ph_66 : Phi := twoW (Fl.twI 42)
abbrev ph_67 : Phi := twoW (Fl.twI 47)
abbrev ph_68 : Phi := twoW (Fl.twI 109)
abbrev ph_69 : Phi := twoW (Fl.twI 77)
abbrev ph_70 : Phi := oneW (fun x => .ok (Fl.onI 110 x))
abbrev ph_71 : Phi := oneW (fun x => .ok (Fl.onI 97 x))
abbrev ph_72 : Phi := oneW (fun x => .ok (Fl.onI 115 x))
abbrev ph_73 : Phi := oneW (fun x => .ok (Fl.onI 102 x))
abbrev ph_74 : Phi := atW (fun x y => Fl.ltB (Fl.cb x) (Fl.cb y))
abbrev ph_75 : Phi := atW (fun x y => Fl.eqB (Fl.cb x) (Fl.cb y))
abbrev ph_76 : Phi := oneW (fun x => .ok (Fl.puI x))
abbrev ph_77 : Phi := oneW takeE
def phl : List Phi := [ph_13, ph_14, ph_15, ph_16, ph_17, ph_18, ph_19, ph_20, ph_21, ph_22, ph_23, ph_24, ph_25, ph_26, ph_27, ph_28, ph_29, ph_30, ph_31, ph_32, ph_33, ph_34, ph_35, ph_36, ph_37, ph_38, ph_39, ph_40, ph_41, ph_42, ph_43, ph_44, ph_45, ph_46, ph_47, ph_48, ph_49, ph_50, ph_51, ph_52, ph_53, ph_54, ph_55, ph_56, ph_57, ph_58, ph_59, ph_60, ph_61, ph_62, ph_63, ph_64, ph_65, ph_66, ph_67, ph_68, ph_69, ph_70, ph_71, ph_72, ph_73, ph_74, ph_75, ph_76, ph_77]
def phO (op : Int) : Option Phi := if 13 ≤ op ∧ op ≤ 77 then phl[(op - 13).toNat]? else none
theorem lk_all : (List.range 137).map (fun m => lkA (On.nmN m)) = (List.range 137).map (fun m : Nat => phO ((m : Int) + 1)) := by kernel_rfl
theorem lk_nil : lkA [] = none := by kernel_rfl
theorem lk_phO (op : Int) : lkA (On.nm op) = phO op := by
  by_cases h : 1 ≤ op ∧ op ≤ 137
  · obtain ⟨m, rfl⟩ : ∃ m : Nat, op = (m : Int) + 1 := ⟨(op - 1).toNat, by omega⟩
    have hm : m < 137 := by omega
    have h1 := congrArg (fun l => l[m]?) lk_all
    simp only [List.getElem?_map, List.getElem?_range hm, Option.map_some, Option.some.injEq] at h1
    rw [← h1]
    congr 1
    unfold On.nm
    rw [if_pos (by omega)]
    congr 1
    omega
  · have e1 : On.nm op = [] := by unfold On.nm; rw [if_neg h]
    rw [e1, lk_nil]
    unfold phO
    rw [if_neg (by omega)]

end Go.Proofs.YtobijdfnafnodaaGreatDoor
