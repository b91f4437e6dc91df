/- The document's Do, and what is small. Written by wip/gen/aluref.py. -/
import Derived.Test.YtobijdfnafnodaaGreatDoorAluRdo1
import Derived.Test.YtobijdfnafnodaaGreatDoorAluRdo2
import Derived.Test.YtobijdfnafnodaaGreatDoorAluRdo3
import Derived.Test.YtobijdfnafnodaaGreatDoorAluRdo4
import Derived.Test.YtobijdfnafnodaaGreatDoorAluRtak
namespace Go.Proofs.YtobijdfnafnodaaGreatDoor
set_option maxRecDepth 100000
open Go.ChangeShapes Go.WideShapes Go.ChangeAt Go.RowKit
open Sk (Sl ints Own)
set_option linter.unusedVariables false

/-! ### what a word leaves is small -/
theorem small_tk {m : Nat} {γ : List Int → Except Int (List Int)} (h : ∀ vs l, vs.length = m → γ vs = .ok l → l.length ≤ 10) : Small (tk m γ) := by
  intro xs b l he
  unfold tk at he
  split at he
  · cases he
  · rename_i hlt
    cases hg : γ (xs.drop (xs.length - m)) with
    | error t => rw [hg] at he; cases he
    | ok l' =>
      rw [hg] at he
      injection he with he
      injection he with e1 e2
      subst e1; subst e2
      exact ⟨by rw [List.length_take]; omega, h _ _ (by rw [List.length_drop]; omega) hg⟩
theorem small_lay (m : Nat) (ps : List Nat) (h : ps.length ≤ 10) : Small (layW m ps) := small_tk fun vs l _ he => by
  injection he with he
  subst he
  simpa [cho] using h
theorem small_one (h : Int → Except Int Int) : Small (oneW h) := small_tk fun vs l _ he => by
  unfold lst at he
  split at he
  · cases he
  · injection he with he
    subst he
    simp
theorem small_two (h : Int → Int → Int) : Small (twoW h) := small_tk fun vs l _ he => by injection he with he; subst he; simp
theorem small_ao (h : Int → Bool) : Small (aoW h) := small_tk fun vs l _ he => by injection he with he; subst he; simp
theorem small_at (h : Int → Int → Bool) : Small (atW h) := small_tk fun vs l _ he => by injection he with he; subst he; simp
theorem small_as (m : Nat) (h : List Int → Bool) : Small (asW m h) := small_tk fun vs l _ he => by injection he with he; subst he; simp
theorem small_div (ps : List Nat) (h : ps.length ≤ 10) : Small (tk 2 (divG ps)) := small_tk fun vs l _ he => by
  unfold divG at he
  split at he
  · cases he
  · injection he with he
    subst he
    simpa [cho] using h
theorem small_sca (ps : List Nat) (h : ps.length ≤ 10) : Small (tk 3 (scaG ps)) := small_tk fun vs l _ he => by
  unfold scaG at he
  split at he
  · cases he
  · split at he
    · injection he with he
      subst he
      simpa [cho] using h
    · cases he
theorem small_twi : Small (tk 1 twiG) := small_tk fun vs l hl he => by
  injection he with he
  subst he
  split
  · omega
  · simp [cho]
theorem roll_len (xs : List Int) (x : Int) : (Sk.rollX xs x).length ≤ xs.length := by
  unfold Sk.rollX
  split
  · rename_i h
    have := Sk.tPick_ok h
    simp
    omega
  · simp
theorem small_pick : Small pickF := by
  intro xs b l he
  unfold pickF at he
  split at he
  · cases he
  · split at he
    · injection he with he
      injection he with e1 e2
      subst e1; subst e2
      exact ⟨by rw [List.length_take]; omega, by simp⟩
    · cases he
theorem small_roll : Small rollF := by
  intro xs b l he
  unfold rollF at he
  split at he
  · cases he
  · split at he
    · injection he with he
      injection he with e1 e2
      subst e1; subst e2
      refine ⟨Nat.le_trans (roll_len _ _) ?_, by simp⟩
      rw [List.length_take]; omega
    · cases he
theorem small_high : Small highF := by
  intro xs b l he
  injection he with he
  injection he with e1 e2
  subst e1; subst e2
  exact ⟨Nat.le_refl _, by simp⟩

/-! ### Do -/
theorem rdo_of (op : Int) (m : Nat) (φ : Phi) (hm : m ≤ 10) (hT : ∀ w, Calls Tryz.prog 21 #[.int .i64 op] w (fun e w' => e = .returned (.int .i64 (m : Int)) ∧ w = w'))
    (hlo : ∀ xs : List Int, xs.length < m → φ xs = .error (-4))
    (hD : ∀ (ra : Option Addr) (rn rc : Nat) (rest : List Int) (va : Option Addr) (vc : Nat) (vs : List Int) (w : World), Sl w ra rn rc (ints rest) → Sl w va m vc (ints vs) → I64s vs → rn ≤ 1000000 → Calls Tryz.prog 23 #[.int .i64 op, .slice ra rn rc, .slice va m vc] w (RdEnd w (φ (rest ++ vs))))
    (hsm : Small φ) (a : Option Addr) (n c : Nat) (xs : List Int) (d : Int) (w : World) (hS : Sl w a n c (ints xs)) (hn : n ≤ 999999) (hI : I64s xs) (hd : I64 d) :
    Calls Tryz.prog 10 #[.int .i64 op, .slice a n c, .int .i64 d] w (DoEnd w (doR (some φ) xs d)) := by
  have hl := hS.nums
  have hTT := Lib.hid (hT w)
  have hm0 : ¬ (m : Int) < 0 := by omega
  by_cases hc : n < m
  · have hP := Lib.hid (Sk.rpop_any a n c xs (m : Int) w hS (by omega))
    have ht : Sk.tPop n (m : Int) = -4 := by unfold Sk.tPop; rw [if_pos (by omega)]
    rw [ht] at hP
    have e : doR (some φ) xs d = ([], -4, true) := by simp only [doR, hlo xs (by omega)]
    rw [e]
    clear e ht hT hD hlo hsm hS hI hd
    go_enter Tryz.func10, Tryz.ntmps10
    go_wp2_with (first | (go_at_call 21; (with_reducible refine hTT.out.mono ?_); rintro e w1 ⟨rfl, rfl⟩) | (go_at_call 22; (with_reducible refine hP.out.mono ?_); rintro e w1 ⟨a1, c1, a2, c2, rfl, hs1, hs2, hb1⟩; clear hs1 hs2; replace hb1 := Lib.hid hb1))
    go_ret3
    exact ⟨none, 0, 0, rfl, Sk.Sl.zero _, hb1.out⟩
  · have ht : Sk.tPop n (m : Int) = 0 := by unfold Sk.tPop; rw [if_neg (by omega)]
    have e1 : Sk.leftX xs (m : Int) = xs.take (n - m) := by unfold Sk.leftX; rw [hl, ht, if_pos rfl]; simp
    have e2 : Sk.takenX xs (m : Int) = xs.drop (n - m) := by unfold Sk.takenX; rw [hl, ht, if_pos rfl]; simp
    have hP := Sk.rpop_any a n c xs (m : Int) w hS (by omega)
    rw [ht, e1, e2] at hP
    have hP := Lib.hid (hP.mono fun e w' h => Sk.told2_at h (n := n - m) (m := m) (by rw [List.length_take, hl]; omega) (by rw [List.length_drop, hl]; omega))
    have hDD := Lib.hid (fun (w1 : World) a1 c1 a2 c2 (h1 : Sl w1 a1 (n - m) c1 (ints (xs.take (n - m)))) (h2 : Sl w1 a2 m c2 (ints (xs.drop (n - m)))) => hD a1 (n - m) c1 _ a2 c2 _ w1 h1 h2 (hI.drop _) (by omega))
    rw [List.take_append_drop] at hDD
    clear hD hT hlo ht e1 e2
    cases hf : φ xs with
    | error t =>
      have e : doR (some φ) xs d = ([], t, true) := by simp only [doR, hf]
      rw [e]
      rw [hf] at hDD
      clear e hf hsm hS hI hd
      go_enter Tryz.func10, Tryz.ntmps10
      go_wp2_with (first | (go_at_call 21; (with_reducible refine hTT.out.mono ?_); rintro e w1 ⟨rfl, rfl⟩) | (go_at_call 22; (with_reducible refine hP.out.mono ?_); rintro e w1 ⟨a1, c1, a2, c2, rfl, hs1, hs2, hb1⟩; have hX := Lib.hid (hDD.out _ _ _ _ _ hs1 hs2); clear hs1 hs2; replace hb1 := Lib.hid hb1) | (go_at_call 23; (with_reducible refine hX.out.mono ?_); rintro e w2 ⟨ht0, a3, n3, c3, a4, n4, c4, rfl, hb2⟩; replace hb2 := Lib.hid (hb1.out.trans (hb2.mono hb1.out.size)); have ht1 : (t != 0) = true := (by simpa using ht0); clear ht0))
      go_ret3
      exact ⟨none, 0, 0, rfl, Sk.Sl.zero _, hb2.out⟩
    | ok r =>
      obtain ⟨b, l⟩ := r
      have e : doR (some φ) xs d = (Sk.pushX b l d, Sk.tPush b.length l.length d, true) := by simp only [doR, hf]
      rw [e]
      have hbl := hsm xs b l hf
      rw [hf] at hDD
      have hpu := Lib.hid (fun (w3 : World) a1 n1 c1 a2 n2 c2 (h1 : Sl w3 a1 n1 c1 (ints b)) (h2 : Sl w3 a2 n2 c2 (ints l)) => show Calls Tryz.prog 24 #[.slice a1 n1 c1, .int .i64 d, .slice a2 n2 c2] w3 (fun e w' => Sk.Told w3 w' e (Sk.pushX b l d) (Sk.tPush b.length l.length d)) from by
        have e1 := h1.nums
        have e2 := h2.nums
        subst e1
        subst e2
        exact Sk.rpush_any a1 a2 b.length c1 l.length c2 b l d w3 h1 h2 (by omega) hd)
      clear e hf hsm hS hI hd
      generalize Sk.pushX b l d = P at *
      generalize Sk.tPush b.length l.length d = t at *
      go_enter Tryz.func10, Tryz.ntmps10
      go_wp2_with (first | (go_at_call 21; (with_reducible refine hTT.out.mono ?_); rintro e w1 ⟨rfl, rfl⟩) | (go_at_call 22; (with_reducible refine hP.out.mono ?_); rintro e w1 ⟨a1, c1, a2, c2, rfl, hs1, hs2, hb1⟩; have hX := Lib.hid (hDD.out _ _ _ _ _ hs1 hs2); clear hs1 hs2; replace hb1 := Lib.hid hb1) | (go_at_call 23; (with_reducible refine hX.out.mono ?_); rintro e w2 ⟨a3, n3, c3, a4, n4, c4, rfl, hs3, hs4, hb2⟩; replace hb2 := Lib.hid (hb1.out.trans (hb2.mono hb1.out.size)); have hU := Lib.hid (hpu.out _ _ _ _ _ _ _ hs3 hs4); clear hs3 hs4) | (go_at_call 24; (with_reducible refine hU.out.mono ?_); rintro e w3 ⟨a5, c5, rfl, hs5, hb3⟩; replace hs5 := Lib.hid hs5))
      go_ret3
      exact ⟨_, _, _, rfl, hs5.out, hb2.out.trans (hb3.mono hb2.out.size)⟩
theorem rdo_none (op : Int) (a : Option Addr) (n c : Nat) (d : Int) (w : World) (h : ¬ (13 ≤ op ∧ op ≤ 77)) :
    Calls Tryz.prog 10 #[.int .i64 op, .slice a n c, .int .i64 d] w (DoEnd w ([], 0, false)) := by
  have hT := Lib.hid (rtak_no op w h)
  clear h
  go_enter Tryz.func10, Tryz.ntmps10
  go_wp2_with (go_at_call 21; (with_reducible refine hT.out.mono ?_); rintro e w1 ⟨rfl, rfl⟩)
  go_ret3
  exact ⟨none, 0, 0, rfl, Sk.Sl.zero _, Below.refl _ _⟩
theorem tk_join {m : Nat} {γ : List Int → Except Int (List Int)} (rest vs : List Int) (h : vs.length = m) : tk m γ (rest ++ vs) = joinR rest (γ vs) := by
  have e : (rest ++ vs).length - m = rest.length := by rw [List.length_append]; omega
  unfold tk
  rw [if_neg (by rw [List.length_append]; omega), e, List.drop_left, List.take_left]
  unfold joinR
  cases γ vs <;> rfl

theorem rdo_13 (a : Option Addr) (n c : Nat) (xs : List Int) (d : Int) (w : World) (hS : Sl w a n c (ints xs)) (hn : n ≤ 999999) (hI : I64s xs) (hd : I64 d) : Calls Tryz.prog 10 #[.int .i64 13, .slice a n c, .int .i64 d] w (DoEnd w (doR (some ph_13) xs d)) :=
  rdo_of 13 1 ph_13 (by decide) (fun w => rtak_13 w) (fun xs h => if_pos h) (fun ra rn rc rest va vc vs w hR h hI hrn => by
    have e : ph_13 (rest ++ vs) = joinR rest ((fun vs => .ok (cho [0, 0] vs)) vs) := tk_join rest vs h.nums
    rw [e]
    exact rdoes_13 ra rn rc rest va vc vs w hR h hI hrn) (small_lay _ _ (by decide)) a n c xs d w hS hn hI hd
theorem rdo_14 (a : Option Addr) (n c : Nat) (xs : List Int) (d : Int) (w : World) (hS : Sl w a n c (ints xs)) (hn : n ≤ 999999) (hI : I64s xs) (hd : I64 d) : Calls Tryz.prog 10 #[.int .i64 14, .slice a n c, .int .i64 d] w (DoEnd w (doR (some ph_14) xs d)) :=
  rdo_of 14 1 ph_14 (by decide) (fun w => rtak_14 w) (fun xs h => if_pos h) (fun ra rn rc rest va vc vs w hR h hI hrn => by
    have e : ph_14 (rest ++ vs) = joinR rest ((fun vs => .ok (cho [] vs)) vs) := tk_join rest vs h.nums
    rw [e]
    exact rdoes_14 ra rn rc rest va vc vs w hR h hI hrn) (small_lay _ _ (by decide)) a n c xs d w hS hn hI hd
theorem rdo_15 (a : Option Addr) (n c : Nat) (xs : List Int) (d : Int) (w : World) (hS : Sl w a n c (ints xs)) (hn : n ≤ 999999) (hI : I64s xs) (hd : I64 d) : Calls Tryz.prog 10 #[.int .i64 15, .slice a n c, .int .i64 d] w (DoEnd w (doR (some ph_15) xs d)) :=
  rdo_of 15 2 ph_15 (by decide) (fun w => rtak_15 w) (fun xs h => if_pos h) (fun ra rn rc rest va vc vs w hR h hI hrn => by
    have e : ph_15 (rest ++ vs) = joinR rest ((fun vs => .ok (cho [1, 0] vs)) vs) := tk_join rest vs h.nums
    rw [e]
    exact rdoes_15 ra rn rc rest va vc vs w hR h hI hrn) (small_lay _ _ (by decide)) a n c xs d w hS hn hI hd
theorem rdo_16 (a : Option Addr) (n c : Nat) (xs : List Int) (d : Int) (w : World) (hS : Sl w a n c (ints xs)) (hn : n ≤ 999999) (hI : I64s xs) (hd : I64 d) : Calls Tryz.prog 10 #[.int .i64 16, .slice a n c, .int .i64 d] w (DoEnd w (doR (some ph_16) xs d)) :=
  rdo_of 16 2 ph_16 (by decide) (fun w => rtak_16 w) (fun xs h => if_pos h) (fun ra rn rc rest va vc vs w hR h hI hrn => by
    have e : ph_16 (rest ++ vs) = joinR rest ((fun vs => .ok (cho [0, 1, 0] vs)) vs) := tk_join rest vs h.nums
    rw [e]
    exact rdoes_16 ra rn rc rest va vc vs w hR h hI hrn) (small_lay _ _ (by decide)) a n c xs d w hS hn hI hd
theorem rdo_17 (a : Option Addr) (n c : Nat) (xs : List Int) (d : Int) (w : World) (hS : Sl w a n c (ints xs)) (hn : n ≤ 999999) (hI : I64s xs) (hd : I64 d) : Calls Tryz.prog 10 #[.int .i64 17, .slice a n c, .int .i64 d] w (DoEnd w (doR (some ph_17) xs d)) :=
  rdo_of 17 3 ph_17 (by decide) (fun w => rtak_17 w) (fun xs h => if_pos h) (fun ra rn rc rest va vc vs w hR h hI hrn => by
    have e : ph_17 (rest ++ vs) = joinR rest ((fun vs => .ok (cho [1, 2, 0] vs)) vs) := tk_join rest vs h.nums
    rw [e]
    exact rdoes_17 ra rn rc rest va vc vs w hR h hI hrn) (small_lay _ _ (by decide)) a n c xs d w hS hn hI hd
theorem rdo_18 (a : Option Addr) (n c : Nat) (xs : List Int) (d : Int) (w : World) (hS : Sl w a n c (ints xs)) (hn : n ≤ 999999) (hI : I64s xs) (hd : I64 d) : Calls Tryz.prog 10 #[.int .i64 18, .slice a n c, .int .i64 d] w (DoEnd w (doR (some ph_18) xs d)) :=
  rdo_of 18 2 ph_18 (by decide) (fun w => rtak_18 w) (fun xs h => if_pos h) (fun ra rn rc rest va vc vs w hR h hI hrn => by
    have e : ph_18 (rest ++ vs) = joinR rest ((fun vs => .ok (cho [1] vs)) vs) := tk_join rest vs h.nums
    rw [e]
    exact rdoes_18 ra rn rc rest va vc vs w hR h hI hrn) (small_lay _ _ (by decide)) a n c xs d w hS hn hI hd
theorem rdo_19 (a : Option Addr) (n c : Nat) (xs : List Int) (d : Int) (w : World) (hS : Sl w a n c (ints xs)) (hn : n ≤ 999999) (hI : I64s xs) (hd : I64 d) : Calls Tryz.prog 10 #[.int .i64 19, .slice a n c, .int .i64 d] w (DoEnd w (doR (some ph_19) xs d)) :=
  rdo_of 19 2 ph_19 (by decide) (fun w => rtak_19 w) (fun xs h => if_pos h) (fun ra rn rc rest va vc vs w hR h hI hrn => by
    have e : ph_19 (rest ++ vs) = joinR rest ((fun vs => .ok (cho [1, 0, 1] vs)) vs) := tk_join rest vs h.nums
    rw [e]
    exact rdoes_19 ra rn rc rest va vc vs w hR h hI hrn) (small_lay _ _ (by decide)) a n c xs d w hS hn hI hd
theorem rdo_20 (a : Option Addr) (n c : Nat) (xs : List Int) (d : Int) (w : World) (hS : Sl w a n c (ints xs)) (hn : n ≤ 999999) (hI : I64s xs) (hd : I64 d) : Calls Tryz.prog 10 #[.int .i64 20, .slice a n c, .int .i64 d] w (DoEnd w (doR (some ph_20) xs d)) :=
  rdo_of 20 1 ph_20 (by decide) (fun w => rtak_20 w) (fun xs h => if_pos h) (fun ra rn rc rest va vc vs w hR h hI hrn => by
    have e : ph_20 (rest ++ vs) = joinR rest (twiG vs) := tk_join rest vs h.nums
    rw [e]
    exact rdoes_20 ra rn rc rest va vc vs w hR h hI hrn) (small_twi) a n c xs d w hS hn hI hd
theorem rdo_21 (a : Option Addr) (n c : Nat) (xs : List Int) (d : Int) (w : World) (hS : Sl w a n c (ints xs)) (hn : n ≤ 999999) (hI : I64s xs) (hd : I64 d) : Calls Tryz.prog 10 #[.int .i64 21, .slice a n c, .int .i64 d] w (DoEnd w (doR (some ph_21) xs d)) :=
  rdo_of 21 2 ph_21 (by decide) (fun w => rtak_21 w) (fun xs h => if_pos h) (fun ra rn rc rest va vc vs w hR h hI hrn => by
    have e : ph_21 (rest ++ vs) = joinR rest ((fun vs => .ok (cho [0, 1, 0, 1] vs)) vs) := tk_join rest vs h.nums
    rw [e]
    exact rdoes_21 ra rn rc rest va vc vs w hR h hI hrn) (small_lay _ _ (by decide)) a n c xs d w hS hn hI hd
theorem rdo_22 (a : Option Addr) (n c : Nat) (xs : List Int) (d : Int) (w : World) (hS : Sl w a n c (ints xs)) (hn : n ≤ 999999) (hI : I64s xs) (hd : I64 d) : Calls Tryz.prog 10 #[.int .i64 22, .slice a n c, .int .i64 d] w (DoEnd w (doR (some ph_22) xs d)) :=
  rdo_of 22 2 ph_22 (by decide) (fun w => rtak_22 w) (fun xs h => if_pos h) (fun ra rn rc rest va vc vs w hR h hI hrn => by
    have e : ph_22 (rest ++ vs) = joinR rest ((fun vs => .ok (cho [] vs)) vs) := tk_join rest vs h.nums
    rw [e]
    exact rdoes_22 ra rn rc rest va vc vs w hR h hI hrn) (small_lay _ _ (by decide)) a n c xs d w hS hn hI hd
theorem rdo_23 (a : Option Addr) (n c : Nat) (xs : List Int) (d : Int) (w : World) (hS : Sl w a n c (ints xs)) (hn : n ≤ 999999) (hI : I64s xs) (hd : I64 d) : Calls Tryz.prog 10 #[.int .i64 23, .slice a n c, .int .i64 d] w (DoEnd w (doR (some ph_23) xs d)) :=
  rdo_of 23 4 ph_23 (by decide) (fun w => rtak_23 w) (fun xs h => if_pos h) (fun ra rn rc rest va vc vs w hR h hI hrn => by
    have e : ph_23 (rest ++ vs) = joinR rest ((fun vs => .ok (cho [2, 3, 0, 1] vs)) vs) := tk_join rest vs h.nums
    rw [e]
    exact rdoes_23 ra rn rc rest va vc vs w hR h hI hrn) (small_lay _ _ (by decide)) a n c xs d w hS hn hI hd
theorem rdo_24 (a : Option Addr) (n c : Nat) (xs : List Int) (d : Int) (w : World) (hS : Sl w a n c (ints xs)) (hn : n ≤ 999999) (hI : I64s xs) (hd : I64 d) : Calls Tryz.prog 10 #[.int .i64 24, .slice a n c, .int .i64 d] w (DoEnd w (doR (some ph_24) xs d)) :=
  rdo_of 24 4 ph_24 (by decide) (fun w => rtak_24 w) (fun xs h => if_pos h) (fun ra rn rc rest va vc vs w hR h hI hrn => by
    have e : ph_24 (rest ++ vs) = joinR rest ((fun vs => .ok (cho [0, 1, 2, 3, 0, 1] vs)) vs) := tk_join rest vs h.nums
    rw [e]
    exact rdoes_24 ra rn rc rest va vc vs w hR h hI hrn) (small_lay _ _ (by decide)) a n c xs d w hS hn hI hd
theorem rdo_25 (a : Option Addr) (n c : Nat) (xs : List Int) (d : Int) (w : World) (hS : Sl w a n c (ints xs)) (hn : n ≤ 999999) (hI : I64s xs) (hd : I64 d) : Calls Tryz.prog 10 #[.int .i64 25, .slice a n c, .int .i64 d] w (DoEnd w (doR (some ph_25) xs d)) :=
  rdo_of 25 1 ph_25 (by decide) (fun w => rtak_25 w) (fun xs h => if_pos h) (fun ra rn rc rest va vc vs w hR h hI hrn => by
    have h1 := h.nums
    have h2 := hR.nums
    have e0 : (rest ++ vs).length - 1 = rest.length := by rw [List.length_append]; omega
    show Calls _ _ _ _ (RdEnd w (pickF (rest ++ vs)))
    unfold pickF
    rw [if_neg (by rw [List.length_append]; omega), e0, List.drop_left, List.take_left, h2]
    exact rdoes_25 ra rn rc rest va vc vs w hR h hI hrn) (small_pick) a n c xs d w hS hn hI hd
theorem rdo_26 (a : Option Addr) (n c : Nat) (xs : List Int) (d : Int) (w : World) (hS : Sl w a n c (ints xs)) (hn : n ≤ 999999) (hI : I64s xs) (hd : I64 d) : Calls Tryz.prog 10 #[.int .i64 26, .slice a n c, .int .i64 d] w (DoEnd w (doR (some ph_26) xs d)) :=
  rdo_of 26 1 ph_26 (by decide) (fun w => rtak_26 w) (fun xs h => if_pos h) (fun ra rn rc rest va vc vs w hR h hI hrn => by
    have h1 := h.nums
    have h2 := hR.nums
    have e0 : (rest ++ vs).length - 1 = rest.length := by rw [List.length_append]; omega
    show Calls _ _ _ _ (RdEnd w (rollF (rest ++ vs)))
    unfold rollF
    rw [if_neg (by rw [List.length_append]; omega), e0, List.drop_left, List.take_left, h2]
    exact rdoes_26 ra rn rc rest va vc vs w hR h hI hrn) (small_roll) a n c xs d w hS hn hI hd
theorem rdo_27 (a : Option Addr) (n c : Nat) (xs : List Int) (d : Int) (w : World) (hS : Sl w a n c (ints xs)) (hn : n ≤ 999999) (hI : I64s xs) (hd : I64 d) : Calls Tryz.prog 10 #[.int .i64 27, .slice a n c, .int .i64 d] w (DoEnd w (doR (some ph_27) xs d)) :=
  rdo_of 27 0 ph_27 (by decide) (fun w => rtak_27 w) (fun xs h => absurd h (by omega)) (fun ra rn rc rest va vc vs w hR h hI hrn => by
    have h1 : vs = [] := List.eq_nil_of_length_eq_zero h.nums
    have h2 := hR.nums
    have h3 := rdoes_27 ra rn rc rest va vc vs w hR h hI hrn
    subst h1
    show Calls _ _ _ _ (RdEnd w (.ok (rest ++ [], [((rest ++ []).length : Int)])))
    rw [List.append_nil, h2]
    exact h3) (small_high) a n c xs d w hS hn hI hd
theorem rdo_28 (a : Option Addr) (n c : Nat) (xs : List Int) (d : Int) (w : World) (hS : Sl w a n c (ints xs)) (hn : n ≤ 999999) (hI : I64s xs) (hd : I64 d) : Calls Tryz.prog 10 #[.int .i64 28, .slice a n c, .int .i64 d] w (DoEnd w (doR (some ph_28) xs d)) :=
  rdo_of 28 2 ph_28 (by decide) (fun w => rtak_28 w) (fun xs h => if_pos h) (fun ra rn rc rest va vc vs w hR h hI hrn => by
    have e : ph_28 (rest ++ vs) = joinR rest ((fun vs => .ok [(fun x y => wrap64 (x + y)) (vs.getD 0 0) (vs.getD 1 0)]) vs) := tk_join rest vs h.nums
    rw [e]
    exact rdoes_28 ra rn rc rest va vc vs w hR h hI hrn) (small_two _) a n c xs d w hS hn hI hd
theorem rdo_29 (a : Option Addr) (n c : Nat) (xs : List Int) (d : Int) (w : World) (hS : Sl w a n c (ints xs)) (hn : n ≤ 999999) (hI : I64s xs) (hd : I64 d) : Calls Tryz.prog 10 #[.int .i64 29, .slice a n c, .int .i64 d] w (DoEnd w (doR (some ph_29) xs d)) :=
  rdo_of 29 2 ph_29 (by decide) (fun w => rtak_29 w) (fun xs h => if_pos h) (fun ra rn rc rest va vc vs w hR h hI hrn => by
    have e : ph_29 (rest ++ vs) = joinR rest ((fun vs => .ok [(fun x y => wrap64 (x - y)) (vs.getD 0 0) (vs.getD 1 0)]) vs) := tk_join rest vs h.nums
    rw [e]
    exact rdoes_29 ra rn rc rest va vc vs w hR h hI hrn) (small_two _) a n c xs d w hS hn hI hd
theorem rdo_30 (a : Option Addr) (n c : Nat) (xs : List Int) (d : Int) (w : World) (hS : Sl w a n c (ints xs)) (hn : n ≤ 999999) (hI : I64s xs) (hd : I64 d) : Calls Tryz.prog 10 #[.int .i64 30, .slice a n c, .int .i64 d] w (DoEnd w (doR (some ph_30) xs d)) :=
  rdo_of 30 2 ph_30 (by decide) (fun w => rtak_30 w) (fun xs h => if_pos h) (fun ra rn rc rest va vc vs w hR h hI hrn => by
    have e : ph_30 (rest ++ vs) = joinR rest ((fun vs => .ok [(fun x y => wrap64 (x * y)) (vs.getD 0 0) (vs.getD 1 0)]) vs) := tk_join rest vs h.nums
    rw [e]
    exact rdoes_30 ra rn rc rest va vc vs w hR h hI hrn) (small_two _) a n c xs d w hS hn hI hd
theorem rdo_31 (a : Option Addr) (n c : Nat) (xs : List Int) (d : Int) (w : World) (hS : Sl w a n c (ints xs)) (hn : n ≤ 999999) (hI : I64s xs) (hd : I64 d) : Calls Tryz.prog 10 #[.int .i64 31, .slice a n c, .int .i64 d] w (DoEnd w (doR (some ph_31) xs d)) :=
  rdo_of 31 2 ph_31 (by decide) (fun w => rtak_31 w) (fun xs h => if_pos h) (fun ra rn rc rest va vc vs w hR h hI hrn => by
    have e : ph_31 (rest ++ vs) = joinR rest ((divG [1]) vs) := tk_join rest vs h.nums
    rw [e]
    exact rdoes_31 ra rn rc rest va vc vs w hR h hI hrn) (small_div _ (by decide)) a n c xs d w hS hn hI hd
theorem rdo_32 (a : Option Addr) (n c : Nat) (xs : List Int) (d : Int) (w : World) (hS : Sl w a n c (ints xs)) (hn : n ≤ 999999) (hI : I64s xs) (hd : I64 d) : Calls Tryz.prog 10 #[.int .i64 32, .slice a n c, .int .i64 d] w (DoEnd w (doR (some ph_32) xs d)) :=
  rdo_of 32 2 ph_32 (by decide) (fun w => rtak_32 w) (fun xs h => if_pos h) (fun ra rn rc rest va vc vs w hR h hI hrn => by
    have e : ph_32 (rest ++ vs) = joinR rest ((divG [0]) vs) := tk_join rest vs h.nums
    rw [e]
    exact rdoes_32 ra rn rc rest va vc vs w hR h hI hrn) (small_div _ (by decide)) a n c xs d w hS hn hI hd
theorem rdo_33 (a : Option Addr) (n c : Nat) (xs : List Int) (d : Int) (w : World) (hS : Sl w a n c (ints xs)) (hn : n ≤ 999999) (hI : I64s xs) (hd : I64 d) : Calls Tryz.prog 10 #[.int .i64 33, .slice a n c, .int .i64 d] w (DoEnd w (doR (some ph_33) xs d)) :=
  rdo_of 33 2 ph_33 (by decide) (fun w => rtak_33 w) (fun xs h => if_pos h) (fun ra rn rc rest va vc vs w hR h hI hrn => by
    have e : ph_33 (rest ++ vs) = joinR rest ((divG [0, 1]) vs) := tk_join rest vs h.nums
    rw [e]
    exact rdoes_33 ra rn rc rest va vc vs w hR h hI hrn) (small_div _ (by decide)) a n c xs d w hS hn hI hd
theorem rdo_34 (a : Option Addr) (n c : Nat) (xs : List Int) (d : Int) (w : World) (hS : Sl w a n c (ints xs)) (hn : n ≤ 999999) (hI : I64s xs) (hd : I64 d) : Calls Tryz.prog 10 #[.int .i64 34, .slice a n c, .int .i64 d] w (DoEnd w (doR (some ph_34) xs d)) :=
  rdo_of 34 3 ph_34 (by decide) (fun w => rtak_34 w) (fun xs h => if_pos h) (fun ra rn rc rest va vc vs w hR h hI hrn => by
    have e : ph_34 (rest ++ vs) = joinR rest ((scaG [1]) vs) := tk_join rest vs h.nums
    rw [e]
    exact rdoes_34 ra rn rc rest va vc vs w hR h hI hrn) (small_sca _ (by decide)) a n c xs d w hS hn hI hd
theorem rdo_35 (a : Option Addr) (n c : Nat) (xs : List Int) (d : Int) (w : World) (hS : Sl w a n c (ints xs)) (hn : n ≤ 999999) (hI : I64s xs) (hd : I64 d) : Calls Tryz.prog 10 #[.int .i64 35, .slice a n c, .int .i64 d] w (DoEnd w (doR (some ph_35) xs d)) :=
  rdo_of 35 3 ph_35 (by decide) (fun w => rtak_35 w) (fun xs h => if_pos h) (fun ra rn rc rest va vc vs w hR h hI hrn => by
    have e : ph_35 (rest ++ vs) = joinR rest ((scaG [0, 1]) vs) := tk_join rest vs h.nums
    rw [e]
    exact rdoes_35 ra rn rc rest va vc vs w hR h hI hrn) (small_sca _ (by decide)) a n c xs d w hS hn hI hd
theorem rdo_36 (a : Option Addr) (n c : Nat) (xs : List Int) (d : Int) (w : World) (hS : Sl w a n c (ints xs)) (hn : n ≤ 999999) (hI : I64s xs) (hd : I64 d) : Calls Tryz.prog 10 #[.int .i64 36, .slice a n c, .int .i64 d] w (DoEnd w (doR (some ph_36) xs d)) :=
  rdo_of 36 1 ph_36 (by decide) (fun w => rtak_36 w) (fun xs h => if_pos h) (fun ra rn rc rest va vc vs w hR h hI hrn => by
    have e : ph_36 (rest ++ vs) = joinR rest ((fun vs => lst ((fun x => .ok (wrap64 (x + 1))) (vs.getD 0 0))) vs) := tk_join rest vs h.nums
    rw [e]
    exact rdoes_36 ra rn rc rest va vc vs w hR h hI hrn) (small_one _) a n c xs d w hS hn hI hd
theorem rdo_37 (a : Option Addr) (n c : Nat) (xs : List Int) (d : Int) (w : World) (hS : Sl w a n c (ints xs)) (hn : n ≤ 999999) (hI : I64s xs) (hd : I64 d) : Calls Tryz.prog 10 #[.int .i64 37, .slice a n c, .int .i64 d] w (DoEnd w (doR (some ph_37) xs d)) :=
  rdo_of 37 1 ph_37 (by decide) (fun w => rtak_37 w) (fun xs h => if_pos h) (fun ra rn rc rest va vc vs w hR h hI hrn => by
    have e : ph_37 (rest ++ vs) = joinR rest ((fun vs => lst ((fun x => .ok (wrap64 (x - 1))) (vs.getD 0 0))) vs) := tk_join rest vs h.nums
    rw [e]
    exact rdoes_37 ra rn rc rest va vc vs w hR h hI hrn) (small_one _) a n c xs d w hS hn hI hd
theorem rdo_38 (a : Option Addr) (n c : Nat) (xs : List Int) (d : Int) (w : World) (hS : Sl w a n c (ints xs)) (hn : n ≤ 999999) (hI : I64s xs) (hd : I64 d) : Calls Tryz.prog 10 #[.int .i64 38, .slice a n c, .int .i64 d] w (DoEnd w (doR (some ph_38) xs d)) :=
  rdo_of 38 1 ph_38 (by decide) (fun w => rtak_38 w) (fun xs h => if_pos h) (fun ra rn rc rest va vc vs w hR h hI hrn => by
    have e : ph_38 (rest ++ vs) = joinR rest ((fun vs => lst ((fun x => .ok (wrap64 (x * 2))) (vs.getD 0 0))) vs) := tk_join rest vs h.nums
    rw [e]
    exact rdoes_38 ra rn rc rest va vc vs w hR h hI hrn) (small_one _) a n c xs d w hS hn hI hd
theorem rdo_39 (a : Option Addr) (n c : Nat) (xs : List Int) (d : Int) (w : World) (hS : Sl w a n c (ints xs)) (hn : n ≤ 999999) (hI : I64s xs) (hd : I64 d) : Calls Tryz.prog 10 #[.int .i64 39, .slice a n c, .int .i64 d] w (DoEnd w (doR (some ph_39) xs d)) :=
  rdo_of 39 1 ph_39 (by decide) (fun w => rtak_39 w) (fun xs h => if_pos h) (fun ra rn rc rest va vc vs w hR h hI hrn => by
    have e : ph_39 (rest ++ vs) = joinR rest ((fun vs => lst ((fun x => .ok (x / 2)) (vs.getD 0 0))) vs) := tk_join rest vs h.nums
    rw [e]
    exact rdoes_39 ra rn rc rest va vc vs w hR h hI hrn) (small_one _) a n c xs d w hS hn hI hd
theorem rdo_40 (a : Option Addr) (n c : Nat) (xs : List Int) (d : Int) (w : World) (hS : Sl w a n c (ints xs)) (hn : n ≤ 999999) (hI : I64s xs) (hd : I64 d) : Calls Tryz.prog 10 #[.int .i64 40, .slice a n c, .int .i64 d] w (DoEnd w (doR (some ph_40) xs d)) :=
  rdo_of 40 1 ph_40 (by decide) (fun w => rtak_40 w) (fun xs h => if_pos h) (fun ra rn rc rest va vc vs w hR h hI hrn => by
    have e : ph_40 (rest ++ vs) = joinR rest ((fun vs => lst ((fun x => .ok (wrap64 (-x))) (vs.getD 0 0))) vs) := tk_join rest vs h.nums
    rw [e]
    exact rdoes_40 ra rn rc rest va vc vs w hR h hI hrn) (small_one _) a n c xs d w hS hn hI hd
theorem rdo_41 (a : Option Addr) (n c : Nat) (xs : List Int) (d : Int) (w : World) (hS : Sl w a n c (ints xs)) (hn : n ≤ 999999) (hI : I64s xs) (hd : I64 d) : Calls Tryz.prog 10 #[.int .i64 41, .slice a n c, .int .i64 d] w (DoEnd w (doR (some ph_41) xs d)) :=
  rdo_of 41 1 ph_41 (by decide) (fun w => rtak_41 w) (fun xs h => if_pos h) (fun ra rn rc rest va vc vs w hR h hI hrn => by
    have e : ph_41 (rest ++ vs) = joinR rest ((fun vs => lst ((fun x => .ok (max x (wrap64 (-x)))) (vs.getD 0 0))) vs) := tk_join rest vs h.nums
    rw [e]
    exact rdoes_41 ra rn rc rest va vc vs w hR h hI hrn) (small_one _) a n c xs d w hS hn hI hd
theorem rdo_42 (a : Option Addr) (n c : Nat) (xs : List Int) (d : Int) (w : World) (hS : Sl w a n c (ints xs)) (hn : n ≤ 999999) (hI : I64s xs) (hd : I64 d) : Calls Tryz.prog 10 #[.int .i64 42, .slice a n c, .int .i64 d] w (DoEnd w (doR (some ph_42) xs d)) :=
  rdo_of 42 2 ph_42 (by decide) (fun w => rtak_42 w) (fun xs h => if_pos h) (fun ra rn rc rest va vc vs w hR h hI hrn => by
    have e : ph_42 (rest ++ vs) = joinR rest ((fun vs => .ok [(fun x y => min x y) (vs.getD 0 0) (vs.getD 1 0)]) vs) := tk_join rest vs h.nums
    rw [e]
    exact rdoes_42 ra rn rc rest va vc vs w hR h hI hrn) (small_two _) a n c xs d w hS hn hI hd
theorem rdo_43 (a : Option Addr) (n c : Nat) (xs : List Int) (d : Int) (w : World) (hS : Sl w a n c (ints xs)) (hn : n ≤ 999999) (hI : I64s xs) (hd : I64 d) : Calls Tryz.prog 10 #[.int .i64 43, .slice a n c, .int .i64 d] w (DoEnd w (doR (some ph_43) xs d)) :=
  rdo_of 43 2 ph_43 (by decide) (fun w => rtak_43 w) (fun xs h => if_pos h) (fun ra rn rc rest va vc vs w hR h hI hrn => by
    have e : ph_43 (rest ++ vs) = joinR rest ((fun vs => .ok [(fun x y => max x y) (vs.getD 0 0) (vs.getD 1 0)]) vs) := tk_join rest vs h.nums
    rw [e]
    exact rdoes_43 ra rn rc rest va vc vs w hR h hI hrn) (small_two _) a n c xs d w hS hn hI hd
theorem rdo_44 (a : Option Addr) (n c : Nat) (xs : List Int) (d : Int) (w : World) (hS : Sl w a n c (ints xs)) (hn : n ≤ 999999) (hI : I64s xs) (hd : I64 d) : Calls Tryz.prog 10 #[.int .i64 44, .slice a n c, .int .i64 d] w (DoEnd w (doR (some ph_44) xs d)) :=
  rdo_of 44 2 ph_44 (by decide) (fun w => rtak_44 w) (fun xs h => if_pos h) (fun ra rn rc rest va vc vs w hR h hI hrn => by
    have e : ph_44 (rest ++ vs) = joinR rest ((fun vs => .ok [(fun x y => bits .and .i64 x y) (vs.getD 0 0) (vs.getD 1 0)]) vs) := tk_join rest vs h.nums
    rw [e]
    exact rdoes_44 ra rn rc rest va vc vs w hR h hI hrn) (small_two _) a n c xs d w hS hn hI hd
theorem rdo_45 (a : Option Addr) (n c : Nat) (xs : List Int) (d : Int) (w : World) (hS : Sl w a n c (ints xs)) (hn : n ≤ 999999) (hI : I64s xs) (hd : I64 d) : Calls Tryz.prog 10 #[.int .i64 45, .slice a n c, .int .i64 d] w (DoEnd w (doR (some ph_45) xs d)) :=
  rdo_of 45 2 ph_45 (by decide) (fun w => rtak_45 w) (fun xs h => if_pos h) (fun ra rn rc rest va vc vs w hR h hI hrn => by
    have e : ph_45 (rest ++ vs) = joinR rest ((fun vs => .ok [(fun x y => bits .or .i64 x y) (vs.getD 0 0) (vs.getD 1 0)]) vs) := tk_join rest vs h.nums
    rw [e]
    exact rdoes_45 ra rn rc rest va vc vs w hR h hI hrn) (small_two _) a n c xs d w hS hn hI hd
theorem rdo_46 (a : Option Addr) (n c : Nat) (xs : List Int) (d : Int) (w : World) (hS : Sl w a n c (ints xs)) (hn : n ≤ 999999) (hI : I64s xs) (hd : I64 d) : Calls Tryz.prog 10 #[.int .i64 46, .slice a n c, .int .i64 d] w (DoEnd w (doR (some ph_46) xs d)) :=
  rdo_of 46 2 ph_46 (by decide) (fun w => rtak_46 w) (fun xs h => if_pos h) (fun ra rn rc rest va vc vs w hR h hI hrn => by
    have e : ph_46 (rest ++ vs) = joinR rest ((fun vs => .ok [(fun x y => bits .xor .i64 x y) (vs.getD 0 0) (vs.getD 1 0)]) vs) := tk_join rest vs h.nums
    rw [e]
    exact rdoes_46 ra rn rc rest va vc vs w hR h hI hrn) (small_two _) a n c xs d w hS hn hI hd
theorem rdo_47 (a : Option Addr) (n c : Nat) (xs : List Int) (d : Int) (w : World) (hS : Sl w a n c (ints xs)) (hn : n ≤ 999999) (hI : I64s xs) (hd : I64 d) : Calls Tryz.prog 10 #[.int .i64 47, .slice a n c, .int .i64 d] w (DoEnd w (doR (some ph_47) xs d)) :=
  rdo_of 47 1 ph_47 (by decide) (fun w => rtak_47 w) (fun xs h => if_pos h) (fun ra rn rc rest va vc vs w hR h hI hrn => by
    have e : ph_47 (rest ++ vs) = joinR rest ((fun vs => lst ((fun x => .ok (-1 - x)) (vs.getD 0 0))) vs) := tk_join rest vs h.nums
    rw [e]
    exact rdoes_47 ra rn rc rest va vc vs w hR h hI hrn) (small_one _) a n c xs d w hS hn hI hd
theorem rdo_48 (a : Option Addr) (n c : Nat) (xs : List Int) (d : Int) (w : World) (hS : Sl w a n c (ints xs)) (hn : n ≤ 999999) (hI : I64s xs) (hd : I64 d) : Calls Tryz.prog 10 #[.int .i64 48, .slice a n c, .int .i64 d] w (DoEnd w (doR (some ph_48) xs d)) :=
  rdo_of 48 2 ph_48 (by decide) (fun w => rtak_48 w) (fun xs h => if_pos h) (fun ra rn rc rest va vc vs w hR h hI hrn => by
    have e : ph_48 (rest ++ vs) = joinR rest ((fun vs => .ok [Ce.lshI (vs.getD 0 0) (vs.getD 1 0)]) vs) := tk_join rest vs h.nums
    rw [e]
    exact rdoes_48 ra rn rc rest va vc vs w hR h hI hrn) (small_two _) a n c xs d w hS hn hI hd
theorem rdo_49 (a : Option Addr) (n c : Nat) (xs : List Int) (d : Int) (w : World) (hS : Sl w a n c (ints xs)) (hn : n ≤ 999999) (hI : I64s xs) (hd : I64 d) : Calls Tryz.prog 10 #[.int .i64 49, .slice a n c, .int .i64 d] w (DoEnd w (doR (some ph_49) xs d)) :=
  rdo_of 49 2 ph_49 (by decide) (fun w => rtak_49 w) (fun xs h => if_pos h) (fun ra rn rc rest va vc vs w hR h hI hrn => by
    have e : ph_49 (rest ++ vs) = joinR rest ((fun vs => .ok [Ce.rshI (vs.getD 0 0) (vs.getD 1 0)]) vs) := tk_join rest vs h.nums
    rw [e]
    exact rdoes_49 ra rn rc rest va vc vs w hR h hI hrn) (small_two _) a n c xs d w hS hn hI hd
theorem rdo_50 (a : Option Addr) (n c : Nat) (xs : List Int) (d : Int) (w : World) (hS : Sl w a n c (ints xs)) (hn : n ≤ 999999) (hI : I64s xs) (hd : I64 d) : Calls Tryz.prog 10 #[.int .i64 50, .slice a n c, .int .i64 d] w (DoEnd w (doR (some ph_50) xs d)) :=
  rdo_of 50 2 ph_50 (by decide) (fun w => rtak_50 w) (fun xs h => if_pos h) (fun ra rn rc rest va vc vs w hR h hI hrn => by
    have e : ph_50 (rest ++ vs) = joinR rest ((fun vs => .ok [Ce.flagI ((fun x y => x == y) (vs.getD 0 0) (vs.getD 1 0))]) vs) := tk_join rest vs h.nums
    rw [e]
    exact rdoes_50 ra rn rc rest va vc vs w hR h hI hrn) (small_at _) a n c xs d w hS hn hI hd
theorem rdo_51 (a : Option Addr) (n c : Nat) (xs : List Int) (d : Int) (w : World) (hS : Sl w a n c (ints xs)) (hn : n ≤ 999999) (hI : I64s xs) (hd : I64 d) : Calls Tryz.prog 10 #[.int .i64 51, .slice a n c, .int .i64 d] w (DoEnd w (doR (some ph_51) xs d)) :=
  rdo_of 51 2 ph_51 (by decide) (fun w => rtak_51 w) (fun xs h => if_pos h) (fun ra rn rc rest va vc vs w hR h hI hrn => by
    have e : ph_51 (rest ++ vs) = joinR rest ((fun vs => .ok [Ce.flagI ((fun x y => x != y) (vs.getD 0 0) (vs.getD 1 0))]) vs) := tk_join rest vs h.nums
    rw [e]
    exact rdoes_51 ra rn rc rest va vc vs w hR h hI hrn) (small_at _) a n c xs d w hS hn hI hd
theorem rdo_52 (a : Option Addr) (n c : Nat) (xs : List Int) (d : Int) (w : World) (hS : Sl w a n c (ints xs)) (hn : n ≤ 999999) (hI : I64s xs) (hd : I64 d) : Calls Tryz.prog 10 #[.int .i64 52, .slice a n c, .int .i64 d] w (DoEnd w (doR (some ph_52) xs d)) :=
  rdo_of 52 2 ph_52 (by decide) (fun w => rtak_52 w) (fun xs h => if_pos h) (fun ra rn rc rest va vc vs w hR h hI hrn => by
    have e : ph_52 (rest ++ vs) = joinR rest ((fun vs => .ok [Ce.flagI ((fun x y => decide (x < y)) (vs.getD 0 0) (vs.getD 1 0))]) vs) := tk_join rest vs h.nums
    rw [e]
    exact rdoes_52 ra rn rc rest va vc vs w hR h hI hrn) (small_at _) a n c xs d w hS hn hI hd
theorem rdo_53 (a : Option Addr) (n c : Nat) (xs : List Int) (d : Int) (w : World) (hS : Sl w a n c (ints xs)) (hn : n ≤ 999999) (hI : I64s xs) (hd : I64 d) : Calls Tryz.prog 10 #[.int .i64 53, .slice a n c, .int .i64 d] w (DoEnd w (doR (some ph_53) xs d)) :=
  rdo_of 53 2 ph_53 (by decide) (fun w => rtak_53 w) (fun xs h => if_pos h) (fun ra rn rc rest va vc vs w hR h hI hrn => by
    have e : ph_53 (rest ++ vs) = joinR rest ((fun vs => .ok [Ce.flagI ((fun x y => decide (y < x)) (vs.getD 0 0) (vs.getD 1 0))]) vs) := tk_join rest vs h.nums
    rw [e]
    exact rdoes_53 ra rn rc rest va vc vs w hR h hI hrn) (small_at _) a n c xs d w hS hn hI hd
theorem rdo_54 (a : Option Addr) (n c : Nat) (xs : List Int) (d : Int) (w : World) (hS : Sl w a n c (ints xs)) (hn : n ≤ 999999) (hI : I64s xs) (hd : I64 d) : Calls Tryz.prog 10 #[.int .i64 54, .slice a n c, .int .i64 d] w (DoEnd w (doR (some ph_54) xs d)) :=
  rdo_of 54 2 ph_54 (by decide) (fun w => rtak_54 w) (fun xs h => if_pos h) (fun ra rn rc rest va vc vs w hR h hI hrn => by
    have e : ph_54 (rest ++ vs) = joinR rest ((fun vs => .ok [Ce.flagI (Ce.belB (vs.getD 0 0) (vs.getD 1 0))]) vs) := tk_join rest vs h.nums
    rw [e]
    exact rdoes_54 ra rn rc rest va vc vs w hR h hI hrn) (small_at _) a n c xs d w hS hn hI hd
theorem rdo_55 (a : Option Addr) (n c : Nat) (xs : List Int) (d : Int) (w : World) (hS : Sl w a n c (ints xs)) (hn : n ≤ 999999) (hI : I64s xs) (hd : I64 d) : Calls Tryz.prog 10 #[.int .i64 55, .slice a n c, .int .i64 d] w (DoEnd w (doR (some ph_55) xs d)) :=
  rdo_of 55 1 ph_55 (by decide) (fun w => rtak_55 w) (fun xs h => if_pos h) (fun ra rn rc rest va vc vs w hR h hI hrn => by
    have e : ph_55 (rest ++ vs) = joinR rest ((fun vs => .ok [Ce.flagI ((fun x => x == 0) (vs.getD 0 0))]) vs) := tk_join rest vs h.nums
    rw [e]
    exact rdoes_55 ra rn rc rest va vc vs w hR h hI hrn) (small_ao _) a n c xs d w hS hn hI hd
theorem rdo_56 (a : Option Addr) (n c : Nat) (xs : List Int) (d : Int) (w : World) (hS : Sl w a n c (ints xs)) (hn : n ≤ 999999) (hI : I64s xs) (hd : I64 d) : Calls Tryz.prog 10 #[.int .i64 56, .slice a n c, .int .i64 d] w (DoEnd w (doR (some ph_56) xs d)) :=
  rdo_of 56 1 ph_56 (by decide) (fun w => rtak_56 w) (fun xs h => if_pos h) (fun ra rn rc rest va vc vs w hR h hI hrn => by
    have e : ph_56 (rest ++ vs) = joinR rest ((fun vs => .ok [Ce.flagI ((fun x => decide (x < 0)) (vs.getD 0 0))]) vs) := tk_join rest vs h.nums
    rw [e]
    exact rdoes_56 ra rn rc rest va vc vs w hR h hI hrn) (small_ao _) a n c xs d w hS hn hI hd
theorem rdo_57 (a : Option Addr) (n c : Nat) (xs : List Int) (d : Int) (w : World) (hS : Sl w a n c (ints xs)) (hn : n ≤ 999999) (hI : I64s xs) (hd : I64 d) : Calls Tryz.prog 10 #[.int .i64 57, .slice a n c, .int .i64 d] w (DoEnd w (doR (some ph_57) xs d)) :=
  rdo_of 57 1 ph_57 (by decide) (fun w => rtak_57 w) (fun xs h => if_pos h) (fun ra rn rc rest va vc vs w hR h hI hrn => by
    have e : ph_57 (rest ++ vs) = joinR rest ((fun vs => .ok [Ce.flagI ((fun x => x != 0) (vs.getD 0 0))]) vs) := tk_join rest vs h.nums
    rw [e]
    exact rdoes_57 ra rn rc rest va vc vs w hR h hI hrn) (small_ao _) a n c xs d w hS hn hI hd
theorem rdo_58 (a : Option Addr) (n c : Nat) (xs : List Int) (d : Int) (w : World) (hS : Sl w a n c (ints xs)) (hn : n ≤ 999999) (hI : I64s xs) (hd : I64 d) : Calls Tryz.prog 10 #[.int .i64 58, .slice a n c, .int .i64 d] w (DoEnd w (doR (some ph_58) xs d)) :=
  rdo_of 58 1 ph_58 (by decide) (fun w => rtak_58 w) (fun xs h => if_pos h) (fun ra rn rc rest va vc vs w hR h hI hrn => by
    have e : ph_58 (rest ++ vs) = joinR rest ((fun vs => .ok [Ce.flagI ((fun x => decide (0 < x)) (vs.getD 0 0))]) vs) := tk_join rest vs h.nums
    rw [e]
    exact rdoes_58 ra rn rc rest va vc vs w hR h hI hrn) (small_ao _) a n c xs d w hS hn hI hd
theorem rdo_59 (a : Option Addr) (n c : Nat) (xs : List Int) (d : Int) (w : World) (hS : Sl w a n c (ints xs)) (hn : n ≤ 999999) (hI : I64s xs) (hd : I64 d) : Calls Tryz.prog 10 #[.int .i64 59, .slice a n c, .int .i64 d] w (DoEnd w (doR (some ph_59) xs d)) :=
  rdo_of 59 3 ph_59 (by decide) (fun w => rtak_59 w) (fun xs h => if_pos h) (fun ra rn rc rest va vc vs w hR h hI hrn => by
    have e : ph_59 (rest ++ vs) = joinR rest ((fun vs => .ok [Ce.flagI (witB vs)]) vs) := tk_join rest vs h.nums
    rw [e]
    exact rdoes_59 ra rn rc rest va vc vs w hR h hI hrn) (small_as _ _) a n c xs d w hS hn hI hd
theorem rdo_60 (a : Option Addr) (n c : Nat) (xs : List Int) (d : Int) (w : World) (hS : Sl w a n c (ints xs)) (hn : n ≤ 999999) (hI : I64s xs) (hd : I64 d) : Calls Tryz.prog 10 #[.int .i64 60, .slice a n c, .int .i64 d] w (DoEnd w (doR (some ph_60) xs d)) :=
  rdo_of 60 0 ph_60 (by decide) (fun w => rtak_60 w) (fun xs h => if_pos h) (fun ra rn rc rest va vc vs w hR h hI hrn => by
    have e : ph_60 (rest ++ vs) = joinR rest ((fun vs => .ok [Ce.flagI ((fun _ => true) vs)]) vs) := tk_join rest vs h.nums
    rw [e]
    exact rdoes_60 ra rn rc rest va vc vs w hR h hI hrn) (small_as _ _) a n c xs d w hS hn hI hd
theorem rdo_61 (a : Option Addr) (n c : Nat) (xs : List Int) (d : Int) (w : World) (hS : Sl w a n c (ints xs)) (hn : n ≤ 999999) (hI : I64s xs) (hd : I64 d) : Calls Tryz.prog 10 #[.int .i64 61, .slice a n c, .int .i64 d] w (DoEnd w (doR (some ph_61) xs d)) :=
  rdo_of 61 0 ph_61 (by decide) (fun w => rtak_61 w) (fun xs h => if_pos h) (fun ra rn rc rest va vc vs w hR h hI hrn => by
    have e : ph_61 (rest ++ vs) = joinR rest ((fun vs => .ok [Ce.flagI ((fun _ => false) vs)]) vs) := tk_join rest vs h.nums
    rw [e]
    exact rdoes_61 ra rn rc rest va vc vs w hR h hI hrn) (small_as _ _) a n c xs d w hS hn hI hd
theorem rdo_62 (a : Option Addr) (n c : Nat) (xs : List Int) (d : Int) (w : World) (hS : Sl w a n c (ints xs)) (hn : n ≤ 999999) (hI : I64s xs) (hd : I64 d) : Calls Tryz.prog 10 #[.int .i64 62, .slice a n c, .int .i64 d] w (DoEnd w (doR (some ph_62) xs d)) :=
  rdo_of 62 1 ph_62 (by decide) (fun w => rtak_62 w) (fun xs h => if_pos h) (fun ra rn rc rest va vc vs w hR h hI hrn => by
    have e : ph_62 (rest ++ vs) = joinR rest ((fun vs => lst ((fun x => .ok (wrap64 (x * 8))) (vs.getD 0 0))) vs) := tk_join rest vs h.nums
    rw [e]
    exact rdoes_62 ra rn rc rest va vc vs w hR h hI hrn) (small_one _) a n c xs d w hS hn hI hd
theorem rdo_63 (a : Option Addr) (n c : Nat) (xs : List Int) (d : Int) (w : World) (hS : Sl w a n c (ints xs)) (hn : n ≤ 999999) (hI : I64s xs) (hd : I64 d) : Calls Tryz.prog 10 #[.int .i64 63, .slice a n c, .int .i64 d] w (DoEnd w (doR (some ph_63) xs d)) :=
  rdo_of 63 1 ph_63 (by decide) (fun w => rtak_63 w) (fun xs h => if_pos h) (fun ra rn rc rest va vc vs w hR h hI hrn => by
    have e : ph_63 (rest ++ vs) = joinR rest ((fun vs => lst ((fun x => .ok (wrap64 (x + 8))) (vs.getD 0 0))) vs) := tk_join rest vs h.nums
    rw [e]
    exact rdoes_63 ra rn rc rest va vc vs w hR h hI hrn) (small_one _) a n c xs d w hS hn hI hd
theorem rdo_64 (a : Option Addr) (n c : Nat) (xs : List Int) (d : Int) (w : World) (hS : Sl w a n c (ints xs)) (hn : n ≤ 999999) (hI : I64s xs) (hd : I64 d) : Calls Tryz.prog 10 #[.int .i64 64, .slice a n c, .int .i64 d] w (DoEnd w (doR (some ph_64) xs d)) :=
  rdo_of 64 2 ph_64 (by decide) (fun w => rtak_64 w) (fun xs h => if_pos h) (fun ra rn rc rest va vc vs w hR h hI hrn => by
    have e : ph_64 (rest ++ vs) = joinR rest ((fun vs => .ok [(Fl.twI 43) (vs.getD 0 0) (vs.getD 1 0)]) vs) := tk_join rest vs h.nums
    rw [e]
    exact rdoes_64 ra rn rc rest va vc vs w hR h hI hrn) (small_two _) a n c xs d w hS hn hI hd
theorem rdo_65 (a : Option Addr) (n c : Nat) (xs : List Int) (d : Int) (w : World) (hS : Sl w a n c (ints xs)) (hn : n ≤ 999999) (hI : I64s xs) (hd : I64 d) : Calls Tryz.prog 10 #[.int .i64 65, .slice a n c, .int .i64 d] w (DoEnd w (doR (some ph_65) xs d)) :=
  rdo_of 65 2 ph_65 (by decide) (fun w => rtak_65 w) (fun xs h => if_pos h) (fun ra rn rc rest va vc vs w hR h hI hrn => by
    have e : ph_65 (rest ++ vs) = joinR rest ((fun vs => .ok [(Fl.twI 45) (vs.getD 0 0) (vs.getD 1 0)]) vs) := tk_join rest vs h.nums
    rw [e]
    exact rdoes_65 ra rn rc rest va vc vs w hR h hI hrn) (small_two _) a n c xs d w hS hn hI hd
theorem rdo_66 (a : Option Addr) (n c : Nat) (xs : List Int) (d : Int) (w : World) (hS : Sl w a n c (ints xs)) (hn : n ≤ 999999) (hI : I64s xs) (hd : I64 d) : Calls Tryz.prog 10 #[.int .i64 66, .slice a n c, .int .i64 d] w (DoEnd w (doR (some ph_66) xs d)) :=
  rdo_of 66 2 ph_66 (by decide) (fun w => rtak_66 w) (fun xs h => if_pos h) (fun ra rn rc rest va vc vs w hR h hI hrn => by
    have e : ph_66 (rest ++ vs) = joinR rest ((fun vs => .ok [(Fl.twI 42) (vs.getD 0 0) (vs.getD 1 0)]) vs) := tk_join rest vs h.nums
    rw [e]
    exact rdoes_66 ra rn rc rest va vc vs w hR h hI hrn) (small_two _) a n c xs d w hS hn hI hd
theorem rdo_67 (a : Option Addr) (n c : Nat) (xs : List Int) (d : Int) (w : World) (hS : Sl w a n c (ints xs)) (hn : n ≤ 999999) (hI : I64s xs) (hd : I64 d) : Calls Tryz.prog 10 #[.int .i64 67, .slice a n c, .int .i64 d] w (DoEnd w (doR (some ph_67) xs d)) :=
  rdo_of 67 2 ph_67 (by decide) (fun w => rtak_67 w) (fun xs h => if_pos h) (fun ra rn rc rest va vc vs w hR h hI hrn => by
    have e : ph_67 (rest ++ vs) = joinR rest ((fun vs => .ok [(Fl.twI 47) (vs.getD 0 0) (vs.getD 1 0)]) vs) := tk_join rest vs h.nums
    rw [e]
    exact rdoes_67 ra rn rc rest va vc vs w hR h hI hrn) (small_two _) a n c xs d w hS hn hI hd
theorem rdo_68 (a : Option Addr) (n c : Nat) (xs : List Int) (d : Int) (w : World) (hS : Sl w a n c (ints xs)) (hn : n ≤ 999999) (hI : I64s xs) (hd : I64 d) : Calls Tryz.prog 10 #[.int .i64 68, .slice a n c, .int .i64 d] w (DoEnd w (doR (some ph_68) xs d)) :=
  rdo_of 68 2 ph_68 (by decide) (fun w => rtak_68 w) (fun xs h => if_pos h) (fun ra rn rc rest va vc vs w hR h hI hrn => by
    have e : ph_68 (rest ++ vs) = joinR rest ((fun vs => .ok [(Fl.twI 109) (vs.getD 0 0) (vs.getD 1 0)]) vs) := tk_join rest vs h.nums
    rw [e]
    exact rdoes_68 ra rn rc rest va vc vs w hR h hI hrn) (small_two _) a n c xs d w hS hn hI hd
theorem rdo_69 (a : Option Addr) (n c : Nat) (xs : List Int) (d : Int) (w : World) (hS : Sl w a n c (ints xs)) (hn : n ≤ 999999) (hI : I64s xs) (hd : I64 d) : Calls Tryz.prog 10 #[.int .i64 69, .slice a n c, .int .i64 d] w (DoEnd w (doR (some ph_69) xs d)) :=
  rdo_of 69 2 ph_69 (by decide) (fun w => rtak_69 w) (fun xs h => if_pos h) (fun ra rn rc rest va vc vs w hR h hI hrn => by
    have e : ph_69 (rest ++ vs) = joinR rest ((fun vs => .ok [(Fl.twI 77) (vs.getD 0 0) (vs.getD 1 0)]) vs) := tk_join rest vs h.nums
    rw [e]
    exact rdoes_69 ra rn rc rest va vc vs w hR h hI hrn) (small_two _) a n c xs d w hS hn hI hd
theorem rdo_70 (a : Option Addr) (n c : Nat) (xs : List Int) (d : Int) (w : World) (hS : Sl w a n c (ints xs)) (hn : n ≤ 999999) (hI : I64s xs) (hd : I64 d) : Calls Tryz.prog 10 #[.int .i64 70, .slice a n c, .int .i64 d] w (DoEnd w (doR (some ph_70) xs d)) :=
  rdo_of 70 1 ph_70 (by decide) (fun w => rtak_70 w) (fun xs h => if_pos h) (fun ra rn rc rest va vc vs w hR h hI hrn => by
    have e : ph_70 (rest ++ vs) = joinR rest ((fun vs => lst ((fun x => .ok (Fl.onI 110 x)) (vs.getD 0 0))) vs) := tk_join rest vs h.nums
    rw [e]
    exact rdoes_70 ra rn rc rest va vc vs w hR h hI hrn) (small_one _) a n c xs d w hS hn hI hd
theorem rdo_71 (a : Option Addr) (n c : Nat) (xs : List Int) (d : Int) (w : World) (hS : Sl w a n c (ints xs)) (hn : n ≤ 999999) (hI : I64s xs) (hd : I64 d) : Calls Tryz.prog 10 #[.int .i64 71, .slice a n c, .int .i64 d] w (DoEnd w (doR (some ph_71) xs d)) :=
  rdo_of 71 1 ph_71 (by decide) (fun w => rtak_71 w) (fun xs h => if_pos h) (fun ra rn rc rest va vc vs w hR h hI hrn => by
    have e : ph_71 (rest ++ vs) = joinR rest ((fun vs => lst ((fun x => .ok (Fl.onI 97 x)) (vs.getD 0 0))) vs) := tk_join rest vs h.nums
    rw [e]
    exact rdoes_71 ra rn rc rest va vc vs w hR h hI hrn) (small_one _) a n c xs d w hS hn hI hd
theorem rdo_72 (a : Option Addr) (n c : Nat) (xs : List Int) (d : Int) (w : World) (hS : Sl w a n c (ints xs)) (hn : n ≤ 999999) (hI : I64s xs) (hd : I64 d) : Calls Tryz.prog 10 #[.int .i64 72, .slice a n c, .int .i64 d] w (DoEnd w (doR (some ph_72) xs d)) :=
  rdo_of 72 1 ph_72 (by decide) (fun w => rtak_72 w) (fun xs h => if_pos h) (fun ra rn rc rest va vc vs w hR h hI hrn => by
    have e : ph_72 (rest ++ vs) = joinR rest ((fun vs => lst ((fun x => .ok (Fl.onI 115 x)) (vs.getD 0 0))) vs) := tk_join rest vs h.nums
    rw [e]
    exact rdoes_72 ra rn rc rest va vc vs w hR h hI hrn) (small_one _) a n c xs d w hS hn hI hd
theorem rdo_73 (a : Option Addr) (n c : Nat) (xs : List Int) (d : Int) (w : World) (hS : Sl w a n c (ints xs)) (hn : n ≤ 999999) (hI : I64s xs) (hd : I64 d) : Calls Tryz.prog 10 #[.int .i64 73, .slice a n c, .int .i64 d] w (DoEnd w (doR (some ph_73) xs d)) :=
  rdo_of 73 1 ph_73 (by decide) (fun w => rtak_73 w) (fun xs h => if_pos h) (fun ra rn rc rest va vc vs w hR h hI hrn => by
    have e : ph_73 (rest ++ vs) = joinR rest ((fun vs => lst ((fun x => .ok (Fl.onI 102 x)) (vs.getD 0 0))) vs) := tk_join rest vs h.nums
    rw [e]
    exact rdoes_73 ra rn rc rest va vc vs w hR h hI hrn) (small_one _) a n c xs d w hS hn hI hd
theorem rdo_74 (a : Option Addr) (n c : Nat) (xs : List Int) (d : Int) (w : World) (hS : Sl w a n c (ints xs)) (hn : n ≤ 999999) (hI : I64s xs) (hd : I64 d) : Calls Tryz.prog 10 #[.int .i64 74, .slice a n c, .int .i64 d] w (DoEnd w (doR (some ph_74) xs d)) :=
  rdo_of 74 2 ph_74 (by decide) (fun w => rtak_74 w) (fun xs h => if_pos h) (fun ra rn rc rest va vc vs w hR h hI hrn => by
    have e : ph_74 (rest ++ vs) = joinR rest ((fun vs => .ok [Ce.flagI ((fun x y => Fl.ltB (Fl.cb x) (Fl.cb y)) (vs.getD 0 0) (vs.getD 1 0))]) vs) := tk_join rest vs h.nums
    rw [e]
    exact rdoes_74 ra rn rc rest va vc vs w hR h hI hrn) (small_at _) a n c xs d w hS hn hI hd
theorem rdo_75 (a : Option Addr) (n c : Nat) (xs : List Int) (d : Int) (w : World) (hS : Sl w a n c (ints xs)) (hn : n ≤ 999999) (hI : I64s xs) (hd : I64 d) : Calls Tryz.prog 10 #[.int .i64 75, .slice a n c, .int .i64 d] w (DoEnd w (doR (some ph_75) xs d)) :=
  rdo_of 75 2 ph_75 (by decide) (fun w => rtak_75 w) (fun xs h => if_pos h) (fun ra rn rc rest va vc vs w hR h hI hrn => by
    have e : ph_75 (rest ++ vs) = joinR rest ((fun vs => .ok [Ce.flagI ((fun x y => Fl.eqB (Fl.cb x) (Fl.cb y)) (vs.getD 0 0) (vs.getD 1 0))]) vs) := tk_join rest vs h.nums
    rw [e]
    exact rdoes_75 ra rn rc rest va vc vs w hR h hI hrn) (small_at _) a n c xs d w hS hn hI hd
theorem rdo_76 (a : Option Addr) (n c : Nat) (xs : List Int) (d : Int) (w : World) (hS : Sl w a n c (ints xs)) (hn : n ≤ 999999) (hI : I64s xs) (hd : I64 d) : Calls Tryz.prog 10 #[.int .i64 76, .slice a n c, .int .i64 d] w (DoEnd w (doR (some ph_76) xs d)) :=
  rdo_of 76 1 ph_76 (by decide) (fun w => rtak_76 w) (fun xs h => if_pos h) (fun ra rn rc rest va vc vs w hR h hI hrn => by
    have e : ph_76 (rest ++ vs) = joinR rest ((fun vs => lst ((fun x => .ok (Fl.puI x)) (vs.getD 0 0))) vs) := tk_join rest vs h.nums
    rw [e]
    exact rdoes_76 ra rn rc rest va vc vs w hR h hI hrn) (small_one _) a n c xs d w hS hn hI hd
theorem rdo_77 (a : Option Addr) (n c : Nat) (xs : List Int) (d : Int) (w : World) (hS : Sl w a n c (ints xs)) (hn : n ≤ 999999) (hI : I64s xs) (hd : I64 d) : Calls Tryz.prog 10 #[.int .i64 77, .slice a n c, .int .i64 d] w (DoEnd w (doR (some ph_77) xs d)) :=
  rdo_of 77 1 ph_77 (by decide) (fun w => rtak_77 w) (fun xs h => if_pos h) (fun ra rn rc rest va vc vs w hR h hI hrn => by
    have e : ph_77 (rest ++ vs) = joinR rest ((fun vs => lst (takeE (vs.getD 0 0))) vs) := tk_join rest vs h.nums
    rw [e]
    exact rdoes_77 ra rn rc rest va vc vs w hR h hI hrn) (small_one _) a n c xs d w hS hn hI hd
theorem phl_small : ∀ φ ∈ phl, Small φ := by
  intro φ h
  simp only [phl, List.mem_cons, List.not_mem_nil, or_false] at h
  rcases h with rfl | rfl | rfl | rfl | rfl | rfl | rfl | rfl | rfl | rfl | rfl | rfl | rfl | rfl | rfl | rfl | rfl | rfl | rfl | rfl | rfl | rfl | rfl | rfl | rfl | rfl | rfl | rfl | rfl | rfl | rfl | rfl | rfl | rfl | rfl | rfl | rfl | rfl | rfl | rfl | rfl | rfl | rfl | rfl | rfl | rfl | rfl | rfl | rfl | rfl | rfl | rfl | rfl | rfl | rfl | rfl | rfl | rfl | rfl | rfl | rfl | rfl | rfl | rfl | rfl
  · exact small_lay _ _ (by decide)
  · exact small_lay _ _ (by decide)
  · exact small_lay _ _ (by decide)
  · exact small_lay _ _ (by decide)
  · exact small_lay _ _ (by decide)
  · exact small_lay _ _ (by decide)
  · exact small_lay _ _ (by decide)
  · exact small_twi
  · exact small_lay _ _ (by decide)
  · exact small_lay _ _ (by decide)
  · exact small_lay _ _ (by decide)
  · exact small_lay _ _ (by decide)
  · exact small_pick
  · exact small_roll
  · exact small_high
  · exact small_two _
  · exact small_two _
  · exact small_two _
  · exact small_div _ (by decide)
  · exact small_div _ (by decide)
  · exact small_div _ (by decide)
  · exact small_sca _ (by decide)
  · exact small_sca _ (by decide)
  · exact small_one _
  · exact small_one _
  · exact small_one _
  · exact small_one _
  · exact small_one _
  · exact small_one _
  · exact small_two _
  · exact small_two _
  · exact small_two _
  · exact small_two _
  · exact small_two _
  · exact small_one _
  · exact small_two _
  · exact small_two _
  · exact small_at _
  · exact small_at _
  · exact small_at _
  · exact small_at _
  · exact small_at _
  · exact small_ao _
  · exact small_ao _
  · exact small_ao _
  · exact small_ao _
  · exact small_as _ _
  · exact small_as _ _
  · exact small_as _ _
  · exact small_one _
  · exact small_one _
  · exact small_two _
  · exact small_two _
  · exact small_two _
  · exact small_two _
  · exact small_two _
  · exact small_two _
  · exact small_one _
  · exact small_one _
  · exact small_one _
  · exact small_one _
  · exact small_at _
  · exact small_at _
  · exact small_one _
  · exact small_one _
theorem phO_small {op : Int} {φ : Phi} (h : phO op = some φ) : Small φ := by
  unfold phO at h
  split at h
  · exact phl_small φ (List.mem_of_getElem? h)
  · cases h
theorem rdo_any (op : Int) (a : Option Addr) (n c : Nat) (xs : List Int) (d : Int) (w : World) (hS : Sl w a n c (ints xs)) (hn : n ≤ 999999) (hI : I64s xs) (hd : I64 d) : Calls Tryz.prog 10 #[.int .i64 op, .slice a n c, .int .i64 d] w (DoEnd w (doR (phO op) xs d)) := by
  by_cases h : 13 ≤ op ∧ op ≤ 77
  · obtain ⟨m, rfl⟩ : ∃ m : Nat, op = (m : Int) := ⟨op.toNat, by omega⟩
    have h1 : 13 ≤ m ∧ m ≤ 77 := by omega
    clear h
    obtain rfl | rfl | rfl | rfl | rfl | rfl | rfl | rfl | rfl | rfl | rfl | rfl | rfl | rfl | rfl | rfl | rfl | rfl | rfl | rfl | rfl | rfl | rfl | rfl | rfl | rfl | rfl | rfl | rfl | rfl | rfl | rfl | rfl | rfl | rfl | rfl | rfl | rfl | rfl | rfl | rfl | rfl | rfl | rfl | rfl | rfl | rfl | rfl | rfl | rfl | rfl | rfl | rfl | rfl | rfl | rfl | rfl | rfl | rfl | rfl | rfl | rfl | rfl | rfl | rfl : m = 13 ∨ m = 14 ∨ m = 15 ∨ m = 16 ∨ m = 17 ∨ m = 18 ∨ m = 19 ∨ m = 20 ∨ m = 21 ∨ m = 22 ∨ m = 23 ∨ m = 24 ∨ m = 25 ∨ m = 26 ∨ m = 27 ∨ m = 28 ∨ m = 29 ∨ m = 30 ∨ m = 31 ∨ m = 32 ∨ m = 33 ∨ m = 34 ∨ m = 35 ∨ m = 36 ∨ m = 37 ∨ m = 38 ∨ m = 39 ∨ m = 40 ∨ m = 41 ∨ m = 42 ∨ m = 43 ∨ m = 44 ∨ m = 45 ∨ m = 46 ∨ m = 47 ∨ m = 48 ∨ m = 49 ∨ m = 50 ∨ m = 51 ∨ m = 52 ∨ m = 53 ∨ m = 54 ∨ m = 55 ∨ m = 56 ∨ m = 57 ∨ m = 58 ∨ m = 59 ∨ m = 60 ∨ m = 61 ∨ m = 62 ∨ m = 63 ∨ m = 64 ∨ m = 65 ∨ m = 66 ∨ m = 67 ∨ m = 68 ∨ m = 69 ∨ m = 70 ∨ m = 71 ∨ m = 72 ∨ m = 73 ∨ m = 74 ∨ m = 75 ∨ m = 76 ∨ m = 77 := by omega
    · exact rdo_13 a n c xs d w hS hn hI hd
    · exact rdo_14 a n c xs d w hS hn hI hd
    · exact rdo_15 a n c xs d w hS hn hI hd
    · exact rdo_16 a n c xs d w hS hn hI hd
    · exact rdo_17 a n c xs d w hS hn hI hd
    · exact rdo_18 a n c xs d w hS hn hI hd
    · exact rdo_19 a n c xs d w hS hn hI hd
    · exact rdo_20 a n c xs d w hS hn hI hd
    · exact rdo_21 a n c xs d w hS hn hI hd
    · exact rdo_22 a n c xs d w hS hn hI hd
    · exact rdo_23 a n c xs d w hS hn hI hd
    · exact rdo_24 a n c xs d w hS hn hI hd
    · exact rdo_25 a n c xs d w hS hn hI hd
    · exact rdo_26 a n c xs d w hS hn hI hd
    · exact rdo_27 a n c xs d w hS hn hI hd
    · exact rdo_28 a n c xs d w hS hn hI hd
    · exact rdo_29 a n c xs d w hS hn hI hd
    · exact rdo_30 a n c xs d w hS hn hI hd
    · exact rdo_31 a n c xs d w hS hn hI hd
    · exact rdo_32 a n c xs d w hS hn hI hd
    · exact rdo_33 a n c xs d w hS hn hI hd
    · exact rdo_34 a n c xs d w hS hn hI hd
    · exact rdo_35 a n c xs d w hS hn hI hd
    · exact rdo_36 a n c xs d w hS hn hI hd
    · exact rdo_37 a n c xs d w hS hn hI hd
    · exact rdo_38 a n c xs d w hS hn hI hd
    · exact rdo_39 a n c xs d w hS hn hI hd
    · exact rdo_40 a n c xs d w hS hn hI hd
    · exact rdo_41 a n c xs d w hS hn hI hd
    · exact rdo_42 a n c xs d w hS hn hI hd
    · exact rdo_43 a n c xs d w hS hn hI hd
    · exact rdo_44 a n c xs d w hS hn hI hd
    · exact rdo_45 a n c xs d w hS hn hI hd
    · exact rdo_46 a n c xs d w hS hn hI hd
    · exact rdo_47 a n c xs d w hS hn hI hd
    · exact rdo_48 a n c xs d w hS hn hI hd
    · exact rdo_49 a n c xs d w hS hn hI hd
    · exact rdo_50 a n c xs d w hS hn hI hd
    · exact rdo_51 a n c xs d w hS hn hI hd
    · exact rdo_52 a n c xs d w hS hn hI hd
    · exact rdo_53 a n c xs d w hS hn hI hd
    · exact rdo_54 a n c xs d w hS hn hI hd
    · exact rdo_55 a n c xs d w hS hn hI hd
    · exact rdo_56 a n c xs d w hS hn hI hd
    · exact rdo_57 a n c xs d w hS hn hI hd
    · exact rdo_58 a n c xs d w hS hn hI hd
    · exact rdo_59 a n c xs d w hS hn hI hd
    · exact rdo_60 a n c xs d w hS hn hI hd
    · exact rdo_61 a n c xs d w hS hn hI hd
    · exact rdo_62 a n c xs d w hS hn hI hd
    · exact rdo_63 a n c xs d w hS hn hI hd
    · exact rdo_64 a n c xs d w hS hn hI hd
    · exact rdo_65 a n c xs d w hS hn hI hd
    · exact rdo_66 a n c xs d w hS hn hI hd
    · exact rdo_67 a n c xs d w hS hn hI hd
    · exact rdo_68 a n c xs d w hS hn hI hd
    · exact rdo_69 a n c xs d w hS hn hI hd
    · exact rdo_70 a n c xs d w hS hn hI hd
    · exact rdo_71 a n c xs d w hS hn hI hd
    · exact rdo_72 a n c xs d w hS hn hI hd
    · exact rdo_73 a n c xs d w hS hn hI hd
    · exact rdo_74 a n c xs d w hS hn hI hd
    · exact rdo_75 a n c xs d w hS hn hI hd
    · exact rdo_76 a n c xs d w hS hn hI hd
    · exact rdo_77 a n c xs d w hS hn hI hd
  · have e : phO op = none := if_neg h
    rw [e]
    exact rdo_none op a n c d w h
theorem do_phO (op : Int) (a : Option Addr) (n c : Nat) (xs : List Int) (d : Int) (w : World) (hL : On.Laid w) (ho : I64 op) (hS : Sl w a n c (ints xs)) (hn : n ≤ 999999) (hI : I64s xs) (hd : I64 d) :
    Calls Tryz.prog 9 #[.int .i64 op, .slice a n c, .int .i64 d] w (DoEnd w (doR (phO op) xs d)) := by
  rw [← lk_phO]
  exact do_any op a n c xs d w hL ho hS hn hI hd (fun φ h => phO_small ((lk_phO op).symm.trans h))
end Go.Proofs.YtobijdfnafnodaaGreatDoor
