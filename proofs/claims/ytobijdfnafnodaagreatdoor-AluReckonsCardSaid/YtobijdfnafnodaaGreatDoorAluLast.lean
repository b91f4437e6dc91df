/- What the laws want of the words: plain mathematics. Written by wip/gen/aluref.py. -/
import Derived.Test.YtobijdfnafnodaaGreatDoorAluAwake
import Derived.Laws.BitsAllLaws
namespace Go.Proofs.YtobijdfnafnodaaGreatDoor
set_option maxRecDepth 100000
open Go.ChangeShapes Go.WideShapes Go.ChangeAt Go.RowKit
open Sk (Sl ints Own)
set_option linter.unusedVariables false

abbrev Laid (w : World) : Prop := On.Laid w
theorem laid_of {W : World} (h : laidMetH Tryz.prog [("nostos/ops.words", Rows.laid_nostos_ops_words)] W) : Laid W := On.laid_of h

/-! ### what is thrown -/
def NoErr (γ : List Int → Except Int (List Int)) : Prop := ∀ vs t, γ vs = .error t → t = -10 ∨ t = -11
theorem noerr_ok (f : List Int → List Int) : NoErr (fun vs => .ok (f vs)) := fun vs t h => by cases h
theorem noerr_one (h : Int → Except Int Int) (hh : ∀ x t, h x = .error t → t = -10 ∨ t = -11) : NoErr (fun vs => lst (h (vs.getD 0 0))) := fun vs t he => by
  have he : lst (h (vs.getD 0 0)) = .error t := he
  cases hx : h (vs.getD 0 0) with
  | error u => rw [hx] at he; injection he with he; subst he; exact hh _ _ hx
  | ok y => rw [hx] at he; cases he
theorem noerr_div (ps : List Nat) : NoErr (divG ps) := fun vs t h => by
  unfold divG at h
  split at h
  · injection h with h; exact .inl h.symm
  · cases h
theorem noerr_sca (ps : List Nat) : NoErr (scaG ps) := fun vs t h => by
  unfold scaG at h
  split at h
  · injection h with h; exact .inl h.symm
  · split at h
    · cases h
    · injection h with h; exact .inr h.symm
theorem noerr_take : ∀ x t, takeE x = .error t → t = -10 ∨ t = -11 := fun x t h => by
  unfold takeE at h
  split at h
  · cases h
  · injection h with h; exact .inr h.symm
theorem noerr_twi : NoErr twiG := fun vs t h => by cases h

theorem phO_no {op : Int} (h : ¬ (13 ≤ op ∧ op ≤ 77)) : phO op = none := if_neg h
theorem phO_tk {op : Int} {φ : Phi} (h : phO op = some φ) (h25 : op ≠ 25) (h26 : op ≠ 26) (h27 : op ≠ 27) : ∃ m γ, φ = tk m γ ∧ NoErr γ := by
  by_cases hr : 13 ≤ op ∧ op ≤ 77
  · obtain ⟨m, rfl⟩ : ∃ m : Nat, op = (m : Int) := ⟨op.toNat, by omega⟩
    have h1 : 13 ≤ m ∧ m ≤ 77 := by omega
    clear hr
    obtain rfl | rfl | rfl | rfl | rfl | rfl | rfl | rfl | rfl | rfl | rfl | rfl | rfl | rfl | rfl | rfl | rfl | rfl | rfl | rfl | rfl | rfl | rfl | rfl | rfl | rfl | rfl | rfl | rfl | rfl | rfl | rfl | rfl | rfl | rfl | rfl | rfl | rfl | rfl | rfl | rfl | rfl | rfl | rfl | rfl | rfl | rfl | rfl | rfl | rfl | rfl | rfl | rfl | rfl | rfl | rfl | rfl | rfl | rfl | rfl | rfl | rfl | rfl | rfl | rfl : m = 13 ∨ m = 14 ∨ m = 15 ∨ m = 16 ∨ m = 17 ∨ m = 18 ∨ m = 19 ∨ m = 20 ∨ m = 21 ∨ m = 22 ∨ m = 23 ∨ m = 24 ∨ m = 25 ∨ m = 26 ∨ m = 27 ∨ m = 28 ∨ m = 29 ∨ m = 30 ∨ m = 31 ∨ m = 32 ∨ m = 33 ∨ m = 34 ∨ m = 35 ∨ m = 36 ∨ m = 37 ∨ m = 38 ∨ m = 39 ∨ m = 40 ∨ m = 41 ∨ m = 42 ∨ m = 43 ∨ m = 44 ∨ m = 45 ∨ m = 46 ∨ m = 47 ∨ m = 48 ∨ m = 49 ∨ m = 50 ∨ m = 51 ∨ m = 52 ∨ m = 53 ∨ m = 54 ∨ m = 55 ∨ m = 56 ∨ m = 57 ∨ m = 58 ∨ m = 59 ∨ m = 60 ∨ m = 61 ∨ m = 62 ∨ m = 63 ∨ m = 64 ∨ m = 65 ∨ m = 66 ∨ m = 67 ∨ m = 68 ∨ m = 69 ∨ m = 70 ∨ m = 71 ∨ m = 72 ∨ m = 73 ∨ m = 74 ∨ m = 75 ∨ m = 76 ∨ m = 77 := by omega
    · obtain rfl : ph_13 = φ := Option.some.inj h
      exact ⟨1, (fun vs => .ok (cho [0, 0] vs)), rfl, noerr_ok _⟩
    · obtain rfl : ph_14 = φ := Option.some.inj h
      exact ⟨1, (fun vs => .ok (cho [] vs)), rfl, noerr_ok _⟩
    · obtain rfl : ph_15 = φ := Option.some.inj h
      exact ⟨2, (fun vs => .ok (cho [1, 0] vs)), rfl, noerr_ok _⟩
    · obtain rfl : ph_16 = φ := Option.some.inj h
      exact ⟨2, (fun vs => .ok (cho [0, 1, 0] vs)), rfl, noerr_ok _⟩
    · obtain rfl : ph_17 = φ := Option.some.inj h
      exact ⟨3, (fun vs => .ok (cho [1, 2, 0] vs)), rfl, noerr_ok _⟩
    · obtain rfl : ph_18 = φ := Option.some.inj h
      exact ⟨2, (fun vs => .ok (cho [1] vs)), rfl, noerr_ok _⟩
    · obtain rfl : ph_19 = φ := Option.some.inj h
      exact ⟨2, (fun vs => .ok (cho [1, 0, 1] vs)), rfl, noerr_ok _⟩
    · obtain rfl : ph_20 = φ := Option.some.inj h
      exact ⟨1, twiG, rfl, noerr_twi⟩
    · obtain rfl : ph_21 = φ := Option.some.inj h
      exact ⟨2, (fun vs => .ok (cho [0, 1, 0, 1] vs)), rfl, noerr_ok _⟩
    · obtain rfl : ph_22 = φ := Option.some.inj h
      exact ⟨2, (fun vs => .ok (cho [] vs)), rfl, noerr_ok _⟩
    · obtain rfl : ph_23 = φ := Option.some.inj h
      exact ⟨4, (fun vs => .ok (cho [2, 3, 0, 1] vs)), rfl, noerr_ok _⟩
    · obtain rfl : ph_24 = φ := Option.some.inj h
      exact ⟨4, (fun vs => .ok (cho [0, 1, 2, 3, 0, 1] vs)), rfl, noerr_ok _⟩
    · exact absurd rfl h25
    · exact absurd rfl h26
    · exact absurd rfl h27
    · obtain rfl : ph_28 = φ := Option.some.inj h
      exact ⟨2, (fun vs => .ok [(fun x y => wrap64 (x + y)) (vs.getD 0 0) (vs.getD 1 0)]), rfl, noerr_ok _⟩
    · obtain rfl : ph_29 = φ := Option.some.inj h
      exact ⟨2, (fun vs => .ok [(fun x y => wrap64 (x - y)) (vs.getD 0 0) (vs.getD 1 0)]), rfl, noerr_ok _⟩
    · obtain rfl : ph_30 = φ := Option.some.inj h
      exact ⟨2, (fun vs => .ok [(fun x y => wrap64 (x * y)) (vs.getD 0 0) (vs.getD 1 0)]), rfl, noerr_ok _⟩
    · obtain rfl : ph_31 = φ := Option.some.inj h
      exact ⟨2, (divG [1]), rfl, noerr_div _⟩
    · obtain rfl : ph_32 = φ := Option.some.inj h
      exact ⟨2, (divG [0]), rfl, noerr_div _⟩
    · obtain rfl : ph_33 = φ := Option.some.inj h
      exact ⟨2, (divG [0, 1]), rfl, noerr_div _⟩
    · obtain rfl : ph_34 = φ := Option.some.inj h
      exact ⟨3, (scaG [1]), rfl, noerr_sca _⟩
    · obtain rfl : ph_35 = φ := Option.some.inj h
      exact ⟨3, (scaG [0, 1]), rfl, noerr_sca _⟩
    · obtain rfl : ph_36 = φ := Option.some.inj h
      exact ⟨1, (fun vs => lst ((fun x => .ok (wrap64 (x + 1))) (vs.getD 0 0))), rfl, noerr_one (fun x => .ok (wrap64 (x + 1))) (fun x t h => by cases h)⟩
    · obtain rfl : ph_37 = φ := Option.some.inj h
      exact ⟨1, (fun vs => lst ((fun x => .ok (wrap64 (x - 1))) (vs.getD 0 0))), rfl, noerr_one (fun x => .ok (wrap64 (x - 1))) (fun x t h => by cases h)⟩
    · obtain rfl : ph_38 = φ := Option.some.inj h
      exact ⟨1, (fun vs => lst ((fun x => .ok (wrap64 (x * 2))) (vs.getD 0 0))), rfl, noerr_one (fun x => .ok (wrap64 (x * 2))) (fun x t h => by cases h)⟩
    · obtain rfl : ph_39 = φ := Option.some.inj h
      exact ⟨1, (fun vs => lst ((fun x => .ok (x / 2)) (vs.getD 0 0))), rfl, noerr_one (fun x => .ok (x / 2)) (fun x t h => by cases h)⟩
    · obtain rfl : ph_40 = φ := Option.some.inj h
      exact ⟨1, (fun vs => lst ((fun x => .ok (wrap64 (-x))) (vs.getD 0 0))), rfl, noerr_one (fun x => .ok (wrap64 (-x))) (fun x t h => by cases h)⟩
    · obtain rfl : ph_41 = φ := Option.some.inj h
      exact ⟨1, (fun vs => lst ((fun x => .ok (max x (wrap64 (-x)))) (vs.getD 0 0))), rfl, noerr_one (fun x => .ok (max x (wrap64 (-x)))) (fun x t h => by cases h)⟩
    · obtain rfl : ph_42 = φ := Option.some.inj h
      exact ⟨2, (fun vs => .ok [(fun x y => min x y) (vs.getD 0 0) (vs.getD 1 0)]), rfl, noerr_ok _⟩
    · obtain rfl : ph_43 = φ := Option.some.inj h
      exact ⟨2, (fun vs => .ok [(fun x y => max x y) (vs.getD 0 0) (vs.getD 1 0)]), rfl, noerr_ok _⟩
    · obtain rfl : ph_44 = φ := Option.some.inj h
      exact ⟨2, (fun vs => .ok [(fun x y => bits .and .i64 x y) (vs.getD 0 0) (vs.getD 1 0)]), rfl, noerr_ok _⟩
    · obtain rfl : ph_45 = φ := Option.some.inj h
      exact ⟨2, (fun vs => .ok [(fun x y => bits .or .i64 x y) (vs.getD 0 0) (vs.getD 1 0)]), rfl, noerr_ok _⟩
    · obtain rfl : ph_46 = φ := Option.some.inj h
      exact ⟨2, (fun vs => .ok [(fun x y => bits .xor .i64 x y) (vs.getD 0 0) (vs.getD 1 0)]), rfl, noerr_ok _⟩
    · obtain rfl : ph_47 = φ := Option.some.inj h
      exact ⟨1, (fun vs => lst ((fun x => .ok (-1 - x)) (vs.getD 0 0))), rfl, noerr_one (fun x => .ok (-1 - x)) (fun x t h => by cases h)⟩
    · obtain rfl : ph_48 = φ := Option.some.inj h
      exact ⟨2, (fun vs => .ok [Ce.lshI (vs.getD 0 0) (vs.getD 1 0)]), rfl, noerr_ok _⟩
    · obtain rfl : ph_49 = φ := Option.some.inj h
      exact ⟨2, (fun vs => .ok [Ce.rshI (vs.getD 0 0) (vs.getD 1 0)]), rfl, noerr_ok _⟩
    · obtain rfl : ph_50 = φ := Option.some.inj h
      exact ⟨2, (fun vs => .ok [Ce.flagI ((fun x y => x == y) (vs.getD 0 0) (vs.getD 1 0))]), rfl, noerr_ok _⟩
    · obtain rfl : ph_51 = φ := Option.some.inj h
      exact ⟨2, (fun vs => .ok [Ce.flagI ((fun x y => x != y) (vs.getD 0 0) (vs.getD 1 0))]), rfl, noerr_ok _⟩
    · obtain rfl : ph_52 = φ := Option.some.inj h
      exact ⟨2, (fun vs => .ok [Ce.flagI ((fun x y => decide (x < y)) (vs.getD 0 0) (vs.getD 1 0))]), rfl, noerr_ok _⟩
    · obtain rfl : ph_53 = φ := Option.some.inj h
      exact ⟨2, (fun vs => .ok [Ce.flagI ((fun x y => decide (y < x)) (vs.getD 0 0) (vs.getD 1 0))]), rfl, noerr_ok _⟩
    · obtain rfl : ph_54 = φ := Option.some.inj h
      exact ⟨2, (fun vs => .ok [Ce.flagI (Ce.belB (vs.getD 0 0) (vs.getD 1 0))]), rfl, noerr_ok _⟩
    · obtain rfl : ph_55 = φ := Option.some.inj h
      exact ⟨1, (fun vs => .ok [Ce.flagI ((fun x => x == 0) (vs.getD 0 0))]), rfl, noerr_ok _⟩
    · obtain rfl : ph_56 = φ := Option.some.inj h
      exact ⟨1, (fun vs => .ok [Ce.flagI ((fun x => decide (x < 0)) (vs.getD 0 0))]), rfl, noerr_ok _⟩
    · obtain rfl : ph_57 = φ := Option.some.inj h
      exact ⟨1, (fun vs => .ok [Ce.flagI ((fun x => x != 0) (vs.getD 0 0))]), rfl, noerr_ok _⟩
    · obtain rfl : ph_58 = φ := Option.some.inj h
      exact ⟨1, (fun vs => .ok [Ce.flagI ((fun x => decide (0 < x)) (vs.getD 0 0))]), rfl, noerr_ok _⟩
    · obtain rfl : ph_59 = φ := Option.some.inj h
      exact ⟨3, (fun vs => .ok [Ce.flagI (witB vs)]), rfl, noerr_ok _⟩
    · obtain rfl : ph_60 = φ := Option.some.inj h
      exact ⟨0, (fun vs => .ok [Ce.flagI ((fun _ => true) vs)]), rfl, noerr_ok _⟩
    · obtain rfl : ph_61 = φ := Option.some.inj h
      exact ⟨0, (fun vs => .ok [Ce.flagI ((fun _ => false) vs)]), rfl, noerr_ok _⟩
    · obtain rfl : ph_62 = φ := Option.some.inj h
      exact ⟨1, (fun vs => lst ((fun x => .ok (wrap64 (x * 8))) (vs.getD 0 0))), rfl, noerr_one (fun x => .ok (wrap64 (x * 8))) (fun x t h => by cases h)⟩
    · obtain rfl : ph_63 = φ := Option.some.inj h
      exact ⟨1, (fun vs => lst ((fun x => .ok (wrap64 (x + 8))) (vs.getD 0 0))), rfl, noerr_one (fun x => .ok (wrap64 (x + 8))) (fun x t h => by cases h)⟩
    · obtain rfl : ph_64 = φ := Option.some.inj h
      exact ⟨2, (fun vs => .ok [(Fl.twI 43) (vs.getD 0 0) (vs.getD 1 0)]), rfl, noerr_ok _⟩
    · obtain rfl : ph_65 = φ := Option.some.inj h
      exact ⟨2, (fun vs => .ok [(Fl.twI 45) (vs.getD 0 0) (vs.getD 1 0)]), rfl, noerr_ok _⟩
    · obtain rfl : ph_66 = φ := Option.some.inj h
      exact ⟨2, (fun vs => .ok [(Fl.twI 42) (vs.getD 0 0) (vs.getD 1 0)]), rfl, noerr_ok _⟩
    · obtain rfl : ph_67 = φ := Option.some.inj h
      exact ⟨2, (fun vs => .ok [(Fl.twI 47) (vs.getD 0 0) (vs.getD 1 0)]), rfl, noerr_ok _⟩
    · obtain rfl : ph_68 = φ := Option.some.inj h
      exact ⟨2, (fun vs => .ok [(Fl.twI 109) (vs.getD 0 0) (vs.getD 1 0)]), rfl, noerr_ok _⟩
    · obtain rfl : ph_69 = φ := Option.some.inj h
      exact ⟨2, (fun vs => .ok [(Fl.twI 77) (vs.getD 0 0) (vs.getD 1 0)]), rfl, noerr_ok _⟩
    · obtain rfl : ph_70 = φ := Option.some.inj h
      exact ⟨1, (fun vs => lst ((fun x => .ok (Fl.onI 110 x)) (vs.getD 0 0))), rfl, noerr_one (fun x => .ok (Fl.onI 110 x)) (fun x t h => by cases h)⟩
    · obtain rfl : ph_71 = φ := Option.some.inj h
      exact ⟨1, (fun vs => lst ((fun x => .ok (Fl.onI 97 x)) (vs.getD 0 0))), rfl, noerr_one (fun x => .ok (Fl.onI 97 x)) (fun x t h => by cases h)⟩
    · obtain rfl : ph_72 = φ := Option.some.inj h
      exact ⟨1, (fun vs => lst ((fun x => .ok (Fl.onI 115 x)) (vs.getD 0 0))), rfl, noerr_one (fun x => .ok (Fl.onI 115 x)) (fun x t h => by cases h)⟩
    · obtain rfl : ph_73 = φ := Option.some.inj h
      exact ⟨1, (fun vs => lst ((fun x => .ok (Fl.onI 102 x)) (vs.getD 0 0))), rfl, noerr_one (fun x => .ok (Fl.onI 102 x)) (fun x t h => by cases h)⟩
    · obtain rfl : ph_74 = φ := Option.some.inj h
      exact ⟨2, (fun vs => .ok [Ce.flagI ((fun x y => Fl.ltB (Fl.cb x) (Fl.cb y)) (vs.getD 0 0) (vs.getD 1 0))]), rfl, noerr_ok _⟩
    · obtain rfl : ph_75 = φ := Option.some.inj h
      exact ⟨2, (fun vs => .ok [Ce.flagI ((fun x y => Fl.eqB (Fl.cb x) (Fl.cb y)) (vs.getD 0 0) (vs.getD 1 0))]), rfl, noerr_ok _⟩
    · obtain rfl : ph_76 = φ := Option.some.inj h
      exact ⟨1, (fun vs => lst ((fun x => .ok (Fl.puI x)) (vs.getD 0 0))), rfl, noerr_one (fun x => .ok (Fl.puI x)) (fun x t h => by cases h)⟩
    · obtain rfl : ph_77 = φ := Option.some.inj h
      exact ⟨1, (fun vs => lst (takeE (vs.getD 0 0))), rfl, noerr_one _ noerr_take⟩
  · rw [phO_no hr] at h
    cases h
theorem pick_err {xs : List Int} {t : Int} (h : pickF xs = .error t) : t = -4 := by
  unfold pickF at h
  split at h
  · injection h with h; exact h.symm
  · split at h
    · cases h
    · injection h with h; exact h.symm
theorem roll_err {xs : List Int} {t : Int} (h : rollF xs = .error t) : t = -4 := by
  unfold rollF at h
  split at h
  · injection h with h; exact h.symm
  · split at h
    · cases h
    · injection h with h; exact h.symm
theorem phO_err {op : Int} {φ : Phi} (h : phO op = some φ) {xs : List Int} {t : Int} (he : φ xs = .error t) : t = -4 ∨ t = -10 ∨ t = -11 := by
  by_cases h25 : op = 25
  · subst h25
    obtain rfl : ph_25 = φ := Option.some.inj h
    exact .inl (pick_err he)
  by_cases h26 : op = 26
  · subst h26
    obtain rfl : ph_26 = φ := Option.some.inj h
    exact .inl (roll_err he)
  by_cases h27 : op = 27
  · subst h27
    obtain rfl : ph_27 = φ := Option.some.inj h
    cases he
  obtain ⟨m, γ, rfl, hn⟩ := phO_tk h h25 h26 h27
  unfold tk at he
  split at he
  · injection he with he; exact .inl he.symm
  · cases hg : γ (xs.drop (xs.length - m)) with
    | error u => rw [hg] at he; injection he with he; subst he; exact .inr (hn _ _ hg)
    | ok l => rw [hg] at he; cases he

/-! ### Do, told in three ways -/
theorem doR_none (xs : List Int) (d : Int) : doR none xs d = ([], 0, false) := rfl
theorem doR_err {φ : Phi} {xs : List Int} {t : Int} (h : φ xs = .error t) (d : Int) : doR (some φ) xs d = ([], t, true) := by simp only [doR, h]
theorem doR_ok {φ : Phi} {xs b l : List Int} (h : φ xs = .ok (b, l)) (d : Int) : doR (some φ) xs d = (Sk.pushX b l d, Sk.tPush b.length l.length d, true) := by simp only [doR, h]
theorem push_in {b l : List Int} {d : Int} (h : (b.length : Int) + (l.length : Int) ≤ d) : Sk.pushX b l d = b ++ l ∧ Sk.tPush b.length l.length d = 0 := by
  have e : Sk.tPush b.length l.length d = 0 := by unfold Sk.tPush; rw [if_neg (by omega)]
  exact ⟨by unfold Sk.pushX; rw [if_pos e], e⟩
theorem below_law (op : Int) (xs ys : List Int) (hx : xs.length ≤ 40) (hy : ys.length ≤ 40) (h25 : op ≠ 25) (h26 : op ≠ 26) (h27 : op ≠ 27) :
    (doR (phO op) xs 1000 = ([], 0, false) ∧ doR (phO op) (ys ++ xs) 1000 = ([], 0, false)) ∨
    (∃ t l2 t2, t ≠ 0 ∧ doR (phO op) xs 1000 = ([], t, true) ∧ doR (phO op) (ys ++ xs) 1000 = (l2, t2, true) ∧ (t = -4 ∨ t2 = t)) ∨
    (∃ l, doR (phO op) xs 1000 = (l, 0, true) ∧ doR (phO op) (ys ++ xs) 1000 = (ys ++ l, 0, true)) := by
  cases h : phO op with
  | none => exact .inl ⟨rfl, rfl⟩
  | some φ =>
    have hsm := phO_small h
    obtain ⟨m, γ, rfl, hn⟩ := phO_tk h h25 h26 h27
    by_cases hm : xs.length < m
    · have e1 : tk m γ xs = .error (-4) := if_pos hm
      rw [doR_err e1]
      refine .inr (.inl ⟨-4, (doR (some (tk m γ)) (ys ++ xs) 1000).1, (doR (some (tk m γ)) (ys ++ xs) 1000).2.1, by decide, rfl, ?_, .inl rfl⟩)
      cases he : tk m γ (ys ++ xs) with
      | error t => rw [doR_err he]
      | ok r => obtain ⟨b, l⟩ := r; rw [doR_ok he]
    · have e2 : (ys ++ xs).length - m = ys.length + (xs.length - m) := by rw [List.length_append]; omega
      have e3 : (ys ++ xs).drop ((ys ++ xs).length - m) = xs.drop (xs.length - m) := by rw [e2, List.drop_append]; simp
      have e4 : (ys ++ xs).take ((ys ++ xs).length - m) = ys ++ xs.take (xs.length - m) := by rw [e2, List.take_append, List.take_of_length_le (by omega)]; simp
      cases hg : γ (xs.drop (xs.length - m)) with
      | error t =>
        have f1 : tk m γ xs = .error t := by unfold tk; rw [if_neg hm, hg]
        have f2 : tk m γ (ys ++ xs) = .error t := by unfold tk; rw [if_neg (by rw [List.length_append]; omega), e3, hg]
        rw [doR_err f1, doR_err f2]
        exact .inr (.inl ⟨t, [], t, by rcases hn _ _ hg with h | h <;> omega, rfl, rfl, .inr rfl⟩)
      | ok l =>
        have f1 : tk m γ xs = .ok (xs.take (xs.length - m), l) := by unfold tk; rw [if_neg hm, hg]
        have f2 : tk m γ (ys ++ xs) = .ok (ys ++ xs.take (xs.length - m), l) := by unfold tk; rw [if_neg (by rw [List.length_append]; omega), e3, hg, e4]
        have hl := (hsm _ _ _ f1).2
        have p1 := push_in (b := xs.take (xs.length - m)) (l := l) (d := 1000) (by rw [List.length_take]; omega)
        have p2 := push_in (b := ys ++ xs.take (xs.length - m)) (l := l) (d := 1000) (by rw [List.length_append, List.length_take]; omega)
        rw [doR_ok f1, doR_ok f2, p1.1, p1.2, p2.1, p2.2, List.append_assoc]
        exact .inr (.inr ⟨_, rfl, rfl⟩)

theorem none_law {op : Int} {φ : Phi} (h : phO op = some φ) : ((doR (some φ) [] 1000).2.1 == 0) = (op == 27 || op == 60 || op == 61) := by
  by_cases hr : 13 ≤ op ∧ op ≤ 77
  · obtain ⟨m, rfl⟩ : ∃ m : Nat, op = (m : Int) := ⟨op.toNat, by omega⟩
    have h1 : 13 ≤ m ∧ m ≤ 77 := by omega
    clear hr
    obtain rfl | rfl | rfl | rfl | rfl | rfl | rfl | rfl | rfl | rfl | rfl | rfl | rfl | rfl | rfl | rfl | rfl | rfl | rfl | rfl | rfl | rfl | rfl | rfl | rfl | rfl | rfl | rfl | rfl | rfl | rfl | rfl | rfl | rfl | rfl | rfl | rfl | rfl | rfl | rfl | rfl | rfl | rfl | rfl | rfl | rfl | rfl | rfl | rfl | rfl | rfl | rfl | rfl | rfl | rfl | rfl | rfl | rfl | rfl | rfl | rfl | rfl | rfl | rfl | rfl : m = 13 ∨ m = 14 ∨ m = 15 ∨ m = 16 ∨ m = 17 ∨ m = 18 ∨ m = 19 ∨ m = 20 ∨ m = 21 ∨ m = 22 ∨ m = 23 ∨ m = 24 ∨ m = 25 ∨ m = 26 ∨ m = 27 ∨ m = 28 ∨ m = 29 ∨ m = 30 ∨ m = 31 ∨ m = 32 ∨ m = 33 ∨ m = 34 ∨ m = 35 ∨ m = 36 ∨ m = 37 ∨ m = 38 ∨ m = 39 ∨ m = 40 ∨ m = 41 ∨ m = 42 ∨ m = 43 ∨ m = 44 ∨ m = 45 ∨ m = 46 ∨ m = 47 ∨ m = 48 ∨ m = 49 ∨ m = 50 ∨ m = 51 ∨ m = 52 ∨ m = 53 ∨ m = 54 ∨ m = 55 ∨ m = 56 ∨ m = 57 ∨ m = 58 ∨ m = 59 ∨ m = 60 ∨ m = 61 ∨ m = 62 ∨ m = 63 ∨ m = 64 ∨ m = 65 ∨ m = 66 ∨ m = 67 ∨ m = 68 ∨ m = 69 ∨ m = 70 ∨ m = 71 ∨ m = 72 ∨ m = 73 ∨ m = 74 ∨ m = 75 ∨ m = 76 ∨ m = 77 := by omega
    · obtain rfl : ph_13 = φ := Option.some.inj h
      rfl
    · obtain rfl : ph_14 = φ := Option.some.inj h
      rfl
    · obtain rfl : ph_15 = φ := Option.some.inj h
      rfl
    · obtain rfl : ph_16 = φ := Option.some.inj h
      rfl
    · obtain rfl : ph_17 = φ := Option.some.inj h
      rfl
    · obtain rfl : ph_18 = φ := Option.some.inj h
      rfl
    · obtain rfl : ph_19 = φ := Option.some.inj h
      rfl
    · obtain rfl : ph_20 = φ := Option.some.inj h
      rfl
    · obtain rfl : ph_21 = φ := Option.some.inj h
      rfl
    · obtain rfl : ph_22 = φ := Option.some.inj h
      rfl
    · obtain rfl : ph_23 = φ := Option.some.inj h
      rfl
    · obtain rfl : ph_24 = φ := Option.some.inj h
      rfl
    · obtain rfl : ph_25 = φ := Option.some.inj h
      rfl
    · obtain rfl : ph_26 = φ := Option.some.inj h
      rfl
    · obtain rfl : ph_27 = φ := Option.some.inj h
      rfl
    · obtain rfl : ph_28 = φ := Option.some.inj h
      rfl
    · obtain rfl : ph_29 = φ := Option.some.inj h
      rfl
    · obtain rfl : ph_30 = φ := Option.some.inj h
      rfl
    · obtain rfl : ph_31 = φ := Option.some.inj h
      rfl
    · obtain rfl : ph_32 = φ := Option.some.inj h
      rfl
    · obtain rfl : ph_33 = φ := Option.some.inj h
      rfl
    · obtain rfl : ph_34 = φ := Option.some.inj h
      rfl
    · obtain rfl : ph_35 = φ := Option.some.inj h
      rfl
    · obtain rfl : ph_36 = φ := Option.some.inj h
      rfl
    · obtain rfl : ph_37 = φ := Option.some.inj h
      rfl
    · obtain rfl : ph_38 = φ := Option.some.inj h
      rfl
    · obtain rfl : ph_39 = φ := Option.some.inj h
      rfl
    · obtain rfl : ph_40 = φ := Option.some.inj h
      rfl
    · obtain rfl : ph_41 = φ := Option.some.inj h
      rfl
    · obtain rfl : ph_42 = φ := Option.some.inj h
      rfl
    · obtain rfl : ph_43 = φ := Option.some.inj h
      rfl
    · obtain rfl : ph_44 = φ := Option.some.inj h
      rfl
    · obtain rfl : ph_45 = φ := Option.some.inj h
      rfl
    · obtain rfl : ph_46 = φ := Option.some.inj h
      rfl
    · obtain rfl : ph_47 = φ := Option.some.inj h
      rfl
    · obtain rfl : ph_48 = φ := Option.some.inj h
      rfl
    · obtain rfl : ph_49 = φ := Option.some.inj h
      rfl
    · obtain rfl : ph_50 = φ := Option.some.inj h
      rfl
    · obtain rfl : ph_51 = φ := Option.some.inj h
      rfl
    · obtain rfl : ph_52 = φ := Option.some.inj h
      rfl
    · obtain rfl : ph_53 = φ := Option.some.inj h
      rfl
    · obtain rfl : ph_54 = φ := Option.some.inj h
      rfl
    · obtain rfl : ph_55 = φ := Option.some.inj h
      rfl
    · obtain rfl : ph_56 = φ := Option.some.inj h
      rfl
    · obtain rfl : ph_57 = φ := Option.some.inj h
      rfl
    · obtain rfl : ph_58 = φ := Option.some.inj h
      rfl
    · obtain rfl : ph_59 = φ := Option.some.inj h
      rfl
    · obtain rfl : ph_60 = φ := Option.some.inj h
      rfl
    · obtain rfl : ph_61 = φ := Option.some.inj h
      rfl
    · obtain rfl : ph_62 = φ := Option.some.inj h
      rfl
    · obtain rfl : ph_63 = φ := Option.some.inj h
      rfl
    · obtain rfl : ph_64 = φ := Option.some.inj h
      rfl
    · obtain rfl : ph_65 = φ := Option.some.inj h
      rfl
    · obtain rfl : ph_66 = φ := Option.some.inj h
      rfl
    · obtain rfl : ph_67 = φ := Option.some.inj h
      rfl
    · obtain rfl : ph_68 = φ := Option.some.inj h
      rfl
    · obtain rfl : ph_69 = φ := Option.some.inj h
      rfl
    · obtain rfl : ph_70 = φ := Option.some.inj h
      rfl
    · obtain rfl : ph_71 = φ := Option.some.inj h
      rfl
    · obtain rfl : ph_72 = φ := Option.some.inj h
      rfl
    · obtain rfl : ph_73 = φ := Option.some.inj h
      rfl
    · obtain rfl : ph_74 = φ := Option.some.inj h
      rfl
    · obtain rfl : ph_75 = φ := Option.some.inj h
      rfl
    · obtain rfl : ph_76 = φ := Option.some.inj h
      rfl
    · obtain rfl : ph_77 = φ := Option.some.inj h
      rfl
  · rw [phO_no hr] at h
    cases h
theorem throws_law (op : Int) (xs : List Int) (hx : xs.length ≤ 40) :
    (doR (phO op) xs 1000 = ([], 0, false) ∧ doR (phO op) xs 0 = ([], 0, false) ∧ phO op = none) ∨
    (∃ t, (t = -4 ∨ t = -10 ∨ t = -11) ∧ doR (phO op) xs 1000 = ([], t, true) ∧ doR (phO op) xs 0 = ([], t, true)) ∨
    (∃ l l0 t0 φ, doR (phO op) xs 1000 = (l, 0, true) ∧ doR (phO op) xs 0 = (l0, t0, true) ∧ ((l = [] ∧ t0 = 0) ∨ (l ≠ [] ∧ t0 = -3)) ∧ phO op = some φ) := by
  cases h : phO op with
  | none => exact .inl ⟨rfl, rfl, rfl⟩
  | some φ =>
    cases he : φ xs with
    | error t => exact .inr (.inl ⟨t, phO_err h he, by rw [doR_err he], by rw [doR_err he]⟩)
    | ok r =>
      obtain ⟨b, l⟩ := r
      obtain ⟨h1, h2⟩ := phO_small h xs b l he
      have p1 := push_in (b := b) (l := l) (d := 1000) (by omega)
      rw [doR_ok he, doR_ok he, p1.1, p1.2]
      refine .inr (.inr ⟨b ++ l, _, _, φ, rfl, rfl, ?_, rfl⟩)
      by_cases hz : b ++ l = []
      · obtain ⟨hb, hl⟩ := List.append_eq_nil_iff.1 hz
        subst hb; subst hl
        exact .inl ⟨rfl, rfl⟩
      · refine .inr ⟨hz, ?_⟩
        have : 0 < (b ++ l).length := List.length_pos_iff.2 hz
        rw [List.length_append] at this
        unfold Sk.tPush
        rw [if_pos (by omega)]

/-! ### a word with its values on top -/
theorem wordX_tk {k : Int} {m : Nat} {γ : List Int → Except Int (List Int)} (h : phO k = some (tk m γ)) (pre vs l : List Int) (hv : vs.length = m) (hg : γ vs = .ok l) (hl : (pre.length : Int) + (l.length : Int) ≤ 1000) : wordX k (pre ++ vs) = pre ++ l := by
  have e : tk m γ (pre ++ vs) = .ok (pre, l) := by rw [tk_join _ _ hv, hg]; rfl
  have p1 := push_in hl
  unfold wordX
  rw [h, doR_ok e, p1.1, p1.2]
  exact if_pos ⟨rfl, rfl⟩

/-! ### names -/
def nmB (op : Nat) (s : List UInt8) : Bool := (strOfNums (On.nm op)).toList == s
theorem nm_law (op : Nat) (h : op < 256) : nmB op [80, 73, 67, 75] = (op == 25) ∧ nmB op [82, 79, 76, 76] = (op == 26) ∧ nmB op [68, 69, 80, 84, 72] = (op == 27) ∧ nmB op [84, 82, 85, 69] = (op == 60) ∧ nmB op [70, 65, 76, 83, 69] = (op == 61) := by
  have : (List.range 256).all (fun op => nmB op [80, 73, 67, 75] == (op == 25) && nmB op [82, 79, 76, 76] == (op == 26) && nmB op [68, 69, 80, 84, 72] == (op == 27) && nmB op [84, 82, 85, 69] == (op == 60) && nmB op [70, 65, 76, 83, 69] == (op == 61)) = true := by decide +kernel
  have := List.all_eq_true.1 this op (List.mem_range.2 h)
  simp only [Bool.and_eq_true, beq_iff_eq] at this
  obtain ⟨⟨⟨⟨a, b⟩, c⟩, d⟩, e⟩ := this
  exact ⟨a, b, c, d, e⟩
end Go.Proofs.YtobijdfnafnodaaGreatDoor
