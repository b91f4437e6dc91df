/- The contract of Take. -/
import Derived.Test.YtjlnfconolndoaaNumCut
import Derived.Deep.DeepCutAuto
import Derived.Deep.CutBlock
namespace Go.Proofs.Ytjlnfconolndoaa
open Go.ChangeShapes Go.WideShapes Go.ChangeAt Go.RowKit
set_option linter.unusedVariables false

theorem mkf (fn : Fn) (first cap : Array Value) (w : World) : (Instr.makeFunc fn first cap).run Try.prog w = .ok (.func fn first cap) w := rfl

theorem wholeL_bd (xs : List Int) (b : Int) : -9223372036854775808 ≤ (wholeL xs b).1 ∧ (wholeL xs b).1 ≤ 9223372036854775807 := by
  unfold wholeL
  split
  · decide
  · exact rd_bd b xs 0 (by decide)
theorem cutL_no {xs : List Int} {c : Int} (h : isC xs c = false) : cutL xs c = xs := by rw [cutL, if_neg (by simp [h])]
theorem cutL_yes {xs : List Int} {c : Int} (h : isC xs c = true) : cutL xs c = xs.tail := by rw [cutL, if_pos h]
theorem retP {a b : Int × Bool} (h : a = b) : Ending.returned (.tuple #[.int .i64 a.1, .bool a.2]) = .returned (.tuple #[.int .i64 b.1, .bool b.2]) := by rw [h]

/-- how a text begins: by a sign, or by none; z: what is left behind it; b2: the base -/
def Begins (xs z : List Int) (b b2 : Int) : Prop := unL z b2 = unL (sgnL xs) (if 0 < signL xs then signL xs else b)
theorem begins35 {xs : List Int} (b : Int) (h : isC xs 35 = true) : Begins xs (cutL xs 35) b 10 := by
  have e : signL xs = 10 := by rw [signL, if_pos h]
  rw [Begins, sgnL, e, if_pos (by decide), if_pos (by decide), cutL_yes h]
theorem begins36 {xs : List Int} (b : Int) (g : isC xs 35 = false) (h : isC xs 36 = true) : Begins xs (cutL (cutL xs 35) 36) b 16 := by
  have e : signL xs = 16 := by rw [signL, if_neg (by simp [g]), if_pos h]
  rw [Begins, sgnL, e, if_pos (by decide), if_pos (by decide), cutL_no g, cutL_yes h]
theorem begins37 {xs : List Int} (b : Int) (g : isC xs 35 = false) (g2 : isC xs 36 = false) (h : isC xs 37 = true) : Begins xs (cutL (cutL (cutL xs 35) 36) 37) b 2 := by
  have e : signL xs = 2 := by rw [signL, if_neg (by simp [g]), if_neg (by simp [g2]), if_pos h]
  rw [Begins, sgnL, e, if_pos (by decide), if_pos (by decide), cutL_no g, cutL_no g2, cutL_yes h]
theorem begins0 {xs : List Int} (b : Int) (g : isC xs 35 = false) (g2 : isC xs 36 = false) (g3 : isC xs 37 = false) : Begins xs (cutL (cutL (cutL xs 35) 36) 37) b b := by
  have e : signL xs = 0 := by rw [signL, if_neg (by simp [g]), if_neg (by simp [g2]), if_neg (by simp [g3])]
  rw [Begins, sgnL, e, if_neg (by decide), if_neg (by decide), cutL_no g, cutL_no g2, cutL_no g3]
theorem take_begins {xs z : List Int} {b b2 : Int} (hq : quoL xs = false) (h : Begins xs z b b2) : takeL xs b = unL z b2 := by
  rw [takeL, if_neg (by simp [hq]), h]
theorem unL_yes {z : List Int} {b : Int} (h : isC z 45 = true) : unL z b = (wrap64 (-(wholeL (cutL z 45) b).1), (wholeL (cutL z 45) b).2) := by rw [unL, if_pos h]
theorem unL_no {z : List Int} {b : Int} (h : isC z 45 = false) : unL z b = wholeL (cutL z 45) b := by rw [unL, if_neg (by simp [h])]

theorem whole_box (xs : List Int) (b : Int) (S : Nat) (w : World) (h : Boxed w S xs) (hb : -9223372036854775808 ≤ b ∧ b ≤ 9223372036854775807) :
    Calls Try.prog 17 #[.string (strOfNums xs), .int .i64 b] w fun e w' => e = .returned (.tuple #[.int .i64 (wholeL xs b).1, .bool (wholeL xs b).2]) ∧ w = w' := whole_any xs b w h.2.1 h.2.2 hb

set_option maxHeartbeats 2000000 in
theorem take_any (xs : List Int) (b : Int) (w : World) (hx : bytesOk xs) (hn : xs.length ≤ 1000) (hb : -9223372036854775808 ≤ b ∧ b ≤ 9223372036854775807) :
    Calls Try.prog 11 #[.string (strOfNums xs), .int .i64 b] w fun e w' => e = .returned (.tuple #[.int .i64 (takeL xs b).1, .bool (takeL xs b).2]) ∧ Below w.heap.size w w' := by
  have hs := str_size xs
  have hmf := mkf
  have hb0 : Below w.heap.size w (w.alloc (.cells #[.string (strOfNums xs)] 9)) := (Below.refl _ _).alloc (Nat.le_refl _) _
  have hbx0 : Boxed (w.alloc (.cells #[.string (strOfNums xs)] 9)) w.heap.size xs := ⟨heap_alloc_new _ _, hx, hn⟩
  have hqc : (xs.length = 3 ∧ xs.getD 0 0 = 39 ∧ xs.getD 2 0 = 39 ∧ quoL xs = true) ∨ (quoL xs = false ∧ ((xs.length ≠ 3) ∨ (xs.length = 3 ∧ (xs.getD 0 0 == 39) = false) ∨ (xs.length = 3 ∧ xs.getD 0 0 = 39 ∧ (xs.getD 2 0 == 39) = false))) := by
    unfold quoL
    by_cases q1 : xs.length = 3 <;> by_cases q2 : xs.getD 0 0 = 39 <;> by_cases q3 : xs.getD 2 0 = 39 <;> simp_all
  rcases hqc with ⟨q1, q2, q3, q4⟩ | ⟨q0, q⟩
  · have h0 : ∀ w, (Instr.index 9 (.string (strOfNums xs)) (.int .i64 0)).run Try.prog w = .ok (.int .u8 (xs.getD 0 0)) w := fun w => str_at hx (k := 0) (by omega) w
    have h1 : ∀ w, (Instr.index 9 (.string (strOfNums xs)) (.int .i64 1)).run Try.prog w = .ok (.int .u8 (xs.getD 1 0)) w := fun w => str_at hx (k := 1) (by omega) w
    have h2 : ∀ w, (Instr.index 9 (.string (strOfNums xs)) (.int .i64 2)).run Try.prog w = .ok (.int .u8 (xs.getD 2 0)) w := fun w => str_at hx (k := 2) (by omega) w
    have x1 := hx.get 1
    have e : Hid (takeL xs b = (xs.getD 1 0, true)) := by show takeL xs b = _; rw [takeL, if_pos q4]
    rw [e.out]
    rw [q2] at h0
    rw [q3] at h2
    rw [q1] at hs
    generalize xs.getD 1 0 = x at *
    have hb0' := Lib.hid hb0
    clear q1 q2 q3 q4 hx hn hbx0 hb0
    generalize strOfNums xs = s at *
    go_enter Try.func11, Try.ntmps11
    go_wp2
    go_ret2
    exact ⟨rfl, hb0'.out⟩
  · have hsg : (isC xs 35 = true ∧ Begins xs (cutL xs 35) b 10) ∨ (isC xs 35 = false ∧ isC (cutL xs 35) 36 = true ∧ Begins xs (cutL (cutL xs 35) 36) b 16) ∨ (isC xs 35 = false ∧ isC (cutL xs 35) 36 = false ∧ isC (cutL (cutL xs 35) 36) 37 = true ∧ Begins xs (cutL (cutL (cutL xs 35) 36) 37) b 2) ∨ (isC xs 35 = false ∧ isC (cutL xs 35) 36 = false ∧ isC (cutL (cutL xs 35) 36) 37 = false ∧ Begins xs (cutL (cutL (cutL xs 35) 36) 37) b b) := by
      cases g1 : isC xs 35
      · rw [cutL_no g1]
        cases g2 : isC xs 36
        · rw [cutL_no g2]
          cases g3 : isC xs 37
          · have := begins0 b g1 g2 g3
            rw [cutL_no g1, cutL_no g2] at this
            simp [this]
          · have := begins37 b g1 g2 g3
            rw [cutL_no g1, cutL_no g2] at this
            simp [this]
        · have := begins36 b g1 g2
          rw [cutL_no g1] at this
          simp [this]
      · simp [begins35 b g1]
    have hat : ∀ k : Nat, xs.length = 3 → k < 3 → ∀ w, (Instr.index 9 (.string (strOfNums xs)) (.int .i64 (k : Int))).run Try.prog w = .ok (.int .u8 (xs.getD k 0)) w := fun k h3 hk w => str_at hx (k := k) (by omega) w
    have hg : ∃ u1 u2 : Int, (0 ≤ u1 ∧ u1 ≤ 255) ∧ (0 ≤ u2 ∧ u2 ≤ 255) ∧ ((((xs.length : Int) == 3) = false) ∨ (((xs.length : Int) == 3) = true ∧ (u1 == 39) = false ∧ (∀ w, (Instr.index 9 (.string (strOfNums xs)) (.int .i64 0)).run Try.prog w = .ok (.int .u8 u1) w)) ∨
        (((xs.length : Int) == 3) = true ∧ (u1 == 39) = true ∧ (u2 == 39) = false ∧ (∀ w, (Instr.index 9 (.string (strOfNums xs)) (.int .i64 0)).run Try.prog w = .ok (.int .u8 u1) w) ∧ (∀ w, (Instr.index 9 (.string (strOfNums xs)) (.int .i64 2)).run Try.prog w = .ok (.int .u8 u2) w))) := by
      refine ⟨xs.getD 0 0, xs.getD 2 0, hx.get 0, hx.get 2, ?_⟩
      rcases q with q | ⟨q, r⟩ | ⟨q, r, s⟩
      · exact .inl (by simpa using fun h => q (by omega))
      · exact .inr (.inl ⟨by simp [q], r, hat 0 q (by decide)⟩)
      · exact .inr (.inr ⟨by simp [q], by rw [r]; rfl, s, hat 0 q (by decide), hat 2 q (by decide)⟩)
    have hE : ∃ z b2, (-9223372036854775808 ≤ b2 ∧ b2 ≤ 9223372036854775807) ∧ Begins xs z b b2 ∧ ((isC xs 35 = true ∧ z = cutL xs 35 ∧ b2 = 10) ∨ (isC xs 35 = false ∧ isC (cutL xs 35) 36 = true ∧ z = cutL (cutL xs 35) 36 ∧ b2 = 16) ∨ (isC xs 35 = false ∧ isC (cutL xs 35) 36 = false ∧ isC (cutL (cutL xs 35) 36) 37 = true ∧ z = cutL (cutL (cutL xs 35) 36) 37 ∧ b2 = 2) ∨ (isC xs 35 = false ∧ isC (cutL xs 35) 36 = false ∧ isC (cutL (cutL xs 35) 36) 37 = false ∧ z = cutL (cutL (cutL xs 35) 36) 37 ∧ b2 = b)) := by
      rcases hsg with ⟨a1, h⟩ | ⟨a1, a2, h⟩ | ⟨a1, a2, a3, h⟩ | ⟨a1, a2, a3, h⟩
      · exact ⟨_, _, by decide, h, by simp [a1]⟩
      · exact ⟨_, _, by decide, h, by simp [a1, a2]⟩
      · exact ⟨_, _, by decide, h, by simp [a1, a2, a3]⟩
      · exact ⟨_, _, hb, h, by simp [a1, a2, a3]⟩
    obtain ⟨u1, u2, hu1, hu2, hg⟩ := hg
    obtain ⟨z, b2, hb2, hz, hE⟩ := hE
    have hz' := Lib.hid (take_begins q0 hz)
    have hE' := Lib.hid hE
    have hbx0' := Lib.hid hbx0
    have hb0' := Lib.hid hb0
    have hzb := wholeL_bd (cutL z 45) b2
    obtain ⟨n, hn'⟩ : ∃ n, n = xs.length := ⟨_, rfl⟩
    rw [← hn'] at hs hg hn
    have hg' := Lib.hid hg
    clear hbx0 hb0 hn' hg hE hz q0 hat q hx hsg
    generalize strOfNums xs = s at *
    go_enter Try.func11, Try.ntmps11
    go_upto_region 1 with fail
    go_cut [22] from 10 to 22 (fun g wx => g = .bool false ∧ w.alloc (.cells #[.string s] 9) = wx)
    case first =>
      clear hmf hbx0' hb0' hE' hz'
      rcases hg'.out with g | ⟨g, g2, g3⟩ | ⟨g, g2, g3, g4, g5⟩
      all_goals clear hg'
      all_goals go_wp2_with fail
      all_goals go_meet
      all_goals exact ⟨rfl, rfl⟩
    case rest =>
      obtain ⟨rfl, rfl⟩ := hcut
      clear hg' hu1 hu2
      go_upto_block 0 with fail
      go_cut [1] from 27 to 35 (fun c wx => c = .int .i64 b2 ∧ Boxed wx w.heap.size z ∧ Below w.heap.size w wx)
      case first =>
        clear hz' hzb hb2
        rcases hE'.out with ⟨a1, rfl, rfl⟩ | ⟨a1, a2, rfl, rfl⟩ | ⟨a1, a2, a3, rfl, rfl⟩ | ⟨a1, a2, a3, rfl, rfl⟩
        all_goals clear hE'
        all_goals go_wp2_with (go_at_call 16; (with_reducible refine (cut1_any _ _ w.heap.size w.heap.size _ (Nat.le_refl _) (Hid.out (by assumption)) (by decide)).mono ?_); rintro e w1 ⟨rfl, hx1, hb1⟩; have hc1 := cell_of_one hx1.1; replace hx1 := Lib.hid hx1; have B1 : Hid (Below w.heap.size w w1) := Lib.hid (Below.trans (Hid.out (by assumption)) hb1); clear hb1)
        all_goals go_meet
        all_goals exact ⟨rfl, Hid.out (by assumption), Hid.out (by assumption)⟩
      case rest =>
        obtain ⟨rfl, hx1, B1⟩ := hcut
        have hc1 := cell_of_one hx1.1
        replace hx1 := Lib.hid hx1
        replace B1 := Lib.hid B1
        clear hE' hbx0' hb0'
        cases hm : isC z 45
        · have he := Lib.hid (hz'.out.trans (unL_no hm))
          clear hz'
          go_wp2_with (first | (go_at_call 16; (with_reducible refine (cut1_any _ _ w.heap.size w.heap.size _ (Nat.le_refl _) (Hid.out (by assumption)) (by decide)).mono ?_); rintro e w1 ⟨rfl, hx1, hb1⟩; have hc1 := cell_of_one hx1.1; replace hx1 := Lib.hid hx1; have B1 : Hid (Below w.heap.size w w1) := Lib.hid (Below.trans (Hid.out (by assumption)) hb1); clear hb1) | (go_at_call 17; (with_reducible refine (whole_box _ _ w.heap.size _ (Hid.out (by assumption)) (by assumption)).mono ?_); rintro e w1 ⟨rfl, rfl⟩))
          go_ret2
          rw [he.out]
          exact ⟨rfl, Hid.out (by assumption)⟩
        · have he := Lib.hid (hz'.out.trans (unL_yes hm))
          clear hz'
          go_wp2_with (first | (go_at_call 16; (with_reducible refine (cut1_any _ _ w.heap.size w.heap.size _ (Nat.le_refl _) (Hid.out (by assumption)) (by decide)).mono ?_); rintro e w1 ⟨rfl, hx1, hb1⟩; have hc1 := cell_of_one hx1.1; replace hx1 := Lib.hid hx1; have B1 : Hid (Below w.heap.size w w1) := Lib.hid (Below.trans (Hid.out (by assumption)) hb1); clear hb1) | (go_at_call 17; (with_reducible refine (whole_box _ _ w.heap.size _ (Hid.out (by assumption)) (by assumption)).mono ?_); rintro e w1 ⟨rfl, rfl⟩))
          go_ret2
          rw [he.out]
          exact ⟨rfl, Hid.out (by assumption)⟩
end Go.Proofs.Ytjlnfconolndoaa
