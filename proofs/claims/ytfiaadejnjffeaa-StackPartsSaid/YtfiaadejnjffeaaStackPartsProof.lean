/- StackParts: for every input the law returns true, and each argument reads behind the call as it read before. No condition. -/
import Derived.Test.YtfiaadejnjffeaaRows
import Derived.WalkKit
import Derived.ProofKit
import Derived.OpenShut
import Derived.Test.YtfiaadejnjffeaaBelow
import Derived.Test.YtfiaadejnjffeaaStkParts
import Derived.ShutString
import Derived.ChangeOld
import Derived.Below
namespace Go.Proofs.Ytfiaadejnjffeaa.stackParts
open Go.ChangeShapes Go.WideShapes Go.ChangeAt Go.RowKit
open Go.ChangeMaps (open_string shut_string)
set_option linter.unusedVariables false

theorem own : ownKnob Try.prog.godebug = none := by kernel_rfl
theorem laidOut : laidOutB Try.prog = true := by kernel_rfl

/-- WHAT THE WALK IS TOLD OF A SLICE OF INTEGERS THAT CAME IN: it is nil; or it leads to a row of 'cap' cells, the numbers 'zs' (the first 'len' are its elements, the rest its spare room), each fitting its kind. -/
def IsRow (k : IntKind) (w : World) (a : Option Addr) (len cap : Nat) (zs : List Int) : Prop :=
  (a = none ∧ len = 0 ∧ cap = 0 ∧ zs = []) ∨
  ∃ x, a = some x ∧ len ≤ cap ∧ cap ≤ maxLen ∧ zs.length = cap ∧ (∀ i, i < zs.length → w.cell? (x.add i) = some (.int k (zs.getD i 0))) ∧ ∀ n ∈ zs, (Lit.int k n).wf = true

/-! ### the walk: the Go text returns true -/
/-- what came in, as a list of integers -/
theorem isRow_sl {w : World} {a : Option Addr} {len cap : Nat} {zs : List Int} (h : IsRow .i64 w a len cap zs) : Sl w a len cap (ints (zs.take len)) := by
  rcases h with ⟨rfl, rfl, rfl, rfl⟩ | ⟨x, rfl, hl, hm, hz, hcell, hwz⟩
  · exact Sl.zero w
  · refine ⟨by simp [ints]; omega, hl, hm, fun h => (by cases h), fun hn => ?_⟩
    obtain ⟨b, o, s⟩ := x
    obtain rfl : s = none := by simpa [Addr.add] using World.cell?_spot (hcell 0 (by omega))
    refine ⟨b, o, rfl, fun i v hi => ?_⟩
    have hil : i < (zs.take len).length := by
      have := (List.getElem?_eq_some_iff.1 hi).1
      simpa [ints] using this
    rw [ints_get hil] at hi
    have hi2 : i < len ∧ i < zs.length := by simp at hil; omega
    have := hcell i hi2.2
    rw [add_plain] at this
    rw [this, ← hi]
    simp [List.getD, hi2.1]

set_option maxHeartbeats 2000000 in
theorem walk (a0 : Option Addr) (len0 cap0 : Nat) (z0 : List Int) (a1x a1y : Int) (w : World) (w0 : IsRow .i64 w a0 len0 cap0 z0) (w1x : (Lit.int .u8 a1x).wf = true) (w1y : (Lit.int .u8 a1y).wf = true) :
    Calls Try.prog 7 #[.slice a0 len0 cap0, .agg #[.int .u8 a1x, .int .u8 a1y]] w fun e w' => e = .returned (.bool true) ∧ Below w.heap.size w w' := by
  have hx0 := bd_u8 w1x
  have hy0 := bd_u8 w1y
  have h := isRow_sl w0
  clear w0 w1x w1y
  generalize z0.take len0 = xs at h
  have bw : Hid (Below w.heap.size w (w.alloc (.cells #[.int .u8 a1x, .int .u8 a1y] 36))) := (Below.refl _ _).alloc (Nat.le_refl _) _
  have h0 := h.below bw.out
  obtain ⟨kx, ky⟩ := cell_two w (.int .u8 a1x) (.int .u8 a1y) 36
  by_cases hl : 60 < len0
  · clear h h0 kx ky
    go_enter Try.func7, Try.ntmps7
    go_wp2_with (go_at_call 8; refine (awake_any _).mono ?_; rintro e w1 ⟨rfl, b1⟩)
    go_ret
    exact ⟨rfl, bw.out.trans (b1.mono bw.out.size)⟩
  have hn : len0 ≤ 17592186044416 := by omega
  obtain ⟨p, hp⟩ : ∃ p : Nat, Int.tmod a1x 70 = (p : Int) := Int.eq_ofNat_of_zero_le (Int.tmod_nonneg _ hx0.1)
  obtain ⟨q, hq⟩ : ∃ q : Nat, Int.tmod a1y 70 = (q : Int) := Int.eq_ofNat_of_zero_le (Int.tmod_nonneg _ hy0.1)
  have hp7 : p < 70 := by have := Int.tmod_lt_of_pos a1x (show (0 : Int) < 70 by decide); omega
  have hq7 : q < 70 := by have := Int.tmod_lt_of_pos a1y (show (0 : Int) < 70 by decide); omega
  have hp' : a1x % 70 = (p : Int) := by rw [← hp, Int.tmod_eq_emod_of_nonneg hx0.1]
  have hq' : a1y % 70 = (q : Int) := by rw [← hq, Int.tmod_eq_emod_of_nonneg hy0.1]
  clear h
  by_cases hpn : len0 < p
  · have hpi : (len0 : Int) < (p : Int) := by omega
    have hpq : (len0 : Int) < (p : Int) + (q : Int) := by omega
    go_enter Try.func7, Try.ntmps7
    go_wp2_with (first
      | (go_at_call 8; refine (awake_any _).mono ?_; rintro e w1 ⟨rfl, b1⟩; have h1 := h0.below b1; have cx := (b1.cell (p := ⟨w.heap.size, 0, none⟩) (by simp)).trans kx; have cy := (b1.cell (p := ⟨w.heap.size, 1, none⟩) (by simp)).trans ky; have B1 := Lib.hid (bw.out.trans (b1.mono bw.out.size)); clear b1 h0 kx ky)
      | (go_at_call 11; (with_reducible refine (pt_under _ _ _ _ _ _ h1 hpi (by omega) hn).mono ?_); rintro e w2 ⟨a2, c2, x2, d2, rfl, hA, b2⟩; have h2 := h1.below b2; have B2 := Lib.hid (B1.out.trans (b2.mono B1.out.size)); clear h1 b2)
      | (go_at_call 11; (with_reducible refine (pop_any _ _ _ _ _ _ hA (by decide) (by omega)).mono ?_); rintro e w3 ⟨a3, c3, x3, d3, rfl, hC, hD, b3⟩; have h3 := h2.below b3; have B3 := Lib.hid (B2.out.trans (b3.mono B2.out.size)); clear h2 hA hC hD b3)
      | (go_at_call 11; (with_reducible refine (pt_under _ _ _ _ _ _ h3 hpq (by omega) hn).mono ?_); rintro e w4 ⟨a4, c4, x4, d4, rfl, hE, b4⟩; have h4 := h3.below b4; have B4 := Lib.hid (B3.out.trans (b4.mono B3.out.size)); clear h3 hE b4)
      | (go_at_call 14; (with_reducible refine (pt_nopick _ _ _ _ _ _ h4 (by omega) (by omega)).mono ?_); rintro e w5 ⟨rfl, b5⟩; have B5 := Lib.hid (B4.out.trans (b5.mono B4.out.size)); clear h4 b5))
    go_ret
    exact ⟨rfl, B5.out⟩
  obtain ⟨m, hm⟩ : ∃ m, len0 = m + p := ⟨len0 - p, by omega⟩
  obtain ⟨A, B, rfl, hA, hB⟩ : ∃ A B, xs = A ++ B ∧ A.length = m ∧ B.length = p := ⟨xs.take m, xs.drop m, (List.take_append_drop m xs).symm, by have := h0.nums; simp; omega, by have := h0.nums; simp; omega⟩
  have hA' := Lib.hid hA
  have hB' := Lib.hid hB
  by_cases hqm : m < q
  · -- the second pop throws
    have hqi : (m : Int) < (q : Int) := by omega
    have hpq : (len0 : Int) < (p : Int) + (q : Int) := by omega
    have hmn : m ≤ 17592186044416 := by omega
    by_cases hm0 : m = 0
    · subst hm0
      obtain rfl : p = len0 := by omega
      clear hm hA hB hp hq hpn
      go_enter Try.func7, Try.ntmps7
      go_wp2_with (first
            | (go_at_call 8; refine (awake_any _).mono ?_; rintro e w1 ⟨rfl, b1⟩; have h1 := h0.below b1; have cx := (b1.cell (p := ⟨w.heap.size, 0, none⟩) (by simp)).trans kx; have cy := (b1.cell (p := ⟨w.heap.size, 1, none⟩) (by simp)).trans ky; have B1 := Lib.hid (bw.out.trans (b1.mono bw.out.size)); clear b1 h0 kx ky)
            | (go_at_call 11; (with_reducible refine (pt_pop _ _ _ _ _ _ _ _ _ h1 hA'.out hB'.out (by omega) hn).mono ?_); rintro e w2 ⟨a2, c2, x2, d2, rfl, hL2, hT2, b2⟩; have h2 := h1.below b2; have B2 := Lib.hid (B1.out.trans (b2.mono B1.out.size)); clear h1 b2 hT2)
            | (go_at_call 11; (with_reducible refine (pt_under _ _ _ _ _ _ hL2 hqi (by omega) hmn).mono ?_); rintro e w3 ⟨a3, c3, x3, d3, rfl, hC, b3⟩; have h3 := h2.below b3; have hL3 := hL2.below b3; have B3 := Lib.hid (B2.out.trans (b3.mono B2.out.size)); clear h2 hL2 hC b3)
            | (go_at_call 11; (with_reducible refine (pt_under _ _ _ _ _ _ h3 hpq (by omega) hn).mono ?_); rintro e w4 ⟨a4, c4, x4, d4, rfl, hE, b4⟩; have h4 := h3.below b4; have hL4 := hL3.below b4; have B4 := Lib.hid (B3.out.trans (b4.mono B3.out.size)); clear h3 hL3 hE b4)
            | (go_at_call 14; (with_reducible refine (pt_nopick _ _ _ _ _ _ h4 (by omega) (by omega)).mono ?_); rintro e w5 ⟨rfl, b5⟩; have B5 := Lib.hid (B4.out.trans (b5.mono B4.out.size)); clear h4 b5))
      go_ret
      exact ⟨rfl, B5.out⟩
    · obtain ⟨j, hj⟩ : ∃ j, m = j + 1 := ⟨m - 1, by omega⟩
      obtain ⟨pre, y, hAy⟩ : ∃ pre y, Hid (A = pre ++ [y]) := ⟨A.take j, A.getD j 0, by
        show A = A.take j ++ [A.getD j 0]
        have e : A = A.take j ++ A.drop j := (List.take_append_drop j A).symm
        conv => lhs; rw [e]
        rw [List.drop_eq_getElem_cons (i := j) (l := A) (by omega), List.drop_eq_nil_of_le (by omega)]
        simp [List.getD, show j < A.length by omega]⟩
      have hy9 : Hid (A.getD j 0 = y) := by
        have e : j = pre.length := by have h1 := hA'.out; have h2 := hAy.out; rw [h2] at h1; simp at h1; omega
        show A.getD j 0 = y
        rw [hAy.out, e]
        simp [List.getD]
      have e1 : (m : Int) - 1 = (j : Int) := by omega
      have hpl : p < len0 := by omega
      have hm1 : 0 < m := by omega
      have hjm : j < m := by omega
      clear hm hA hB hp hq hpn hj hm0
      go_enter Try.func7, Try.ntmps7
      go_wp2_with (first
            | (go_at_call 8; refine (awake_any _).mono ?_; rintro e w1 ⟨rfl, b1⟩; have h1 := h0.below b1; have cx := (b1.cell (p := ⟨w.heap.size, 0, none⟩) (by simp)).trans kx; have cy := (b1.cell (p := ⟨w.heap.size, 1, none⟩) (by simp)).trans ky; have B1 := Lib.hid (bw.out.trans (b1.mono bw.out.size)); clear b1 h0 kx ky)
            | (go_at_call 11; (with_reducible refine (pt_pop _ _ _ _ _ _ _ _ _ h1 hA'.out hB'.out (by omega) hn).mono ?_); rintro e w2 ⟨a2, c2, x2, d2, rfl, hL2, hT2, b2⟩; have h2 := h1.below b2; have B2 := Lib.hid (B1.out.trans (b2.mono B1.out.size)); clear h1 b2 hT2)
            | (go_at_call 11; (with_reducible refine (pt_under _ _ _ _ _ _ hL2 hqi (by omega) hmn).mono ?_); rintro e w3 ⟨a3, c3, x3, d3, rfl, hC, b3⟩; have h3 := h2.below b3; have hL3 := hL2.below b3; have B3 := Lib.hid (B2.out.trans (b3.mono B2.out.size)); clear h2 hL2 hC b3)
            | (go_at_call 11; (with_reducible refine (pt_under _ _ _ _ _ _ h3 hpq (by omega) hn).mono ?_); rintro e w4 ⟨a4, c4, x4, d4, rfl, hE, b4⟩; have h4 := h3.below b4; have hL4 := hL3.below b4; have B4 := Lib.hid (B3.out.trans (b4.mono B3.out.size)); clear h3 hL3 hE b4)
            | (go_at_call 14; (have hp9 := h4; rw [hAy.out] at hp9; (with_reducible refine (pt_pick _ _ _ _ _ _ _ _ hp9 hB'.out hn).mono ?_); clear hp9); rintro e w5 ⟨rfl, b5⟩; have hL5 := hL4.below b5; have B5 := Lib.hid (B4.out.trans (b5.mono B4.out.size)); obtain ⟨b9, o9, rfl, hc9⟩ := hL5.int (i := j) (by rw [hL5.nums]; omega); rw [hy9.out] at hc9; clear h4 hL4 b5))
      go_ret
      exact ⟨rfl, B5.out⟩
  · -- all goes
    obtain ⟨r, hr⟩ : ∃ r, m = r + q := ⟨m - q, by omega⟩
    obtain ⟨A1, A2, hA12, hA1, hA2⟩ : ∃ A1 A2, Hid (A = A1 ++ A2) ∧ Hid (A1.length = r) ∧ Hid (A2.length = q) := ⟨A.take r, A.drop r, (List.take_append_drop r A).symm, by show (A.take r).length = r; simp; omega, by show (A.drop r).length = q; simp; omega⟩
    obtain ⟨s, hs⟩ : ∃ s, s = q + p := ⟨_, rfl⟩
    have hAB : Hid ((A2 ++ B).length = s) := by show (A2 ++ B).length = s; rw [List.length_append, hA2.out, hB'.out, hs]
    have hsi : (p : Int) + (q : Int) ≤ (s : Int) := by omega
    have hsj : (s : Int) ≤ (p : Int) + (q : Int) := by omega
    have hs' := Lib.hid hs
    clear hs
    have hmn : m ≤ 17592186044416 := by omega
    have hnew := new0
    by_cases hm0 : m = 0
    · obtain rfl : q = 0 := by omega
      obtain rfl : r = 0 := by omega
      clear hr
      subst hm0
      obtain rfl : p = len0 := by omega
      clear hm hA hB hp hq hpn
      go_enter Try.func7, Try.ntmps7
      go_wp2_with (first
            | (go_at_call 8; refine (awake_any _).mono ?_; rintro e w1 ⟨rfl, b1⟩; have h1 := h0.below b1; have cx := (b1.cell (p := ⟨w.heap.size, 0, none⟩) (by simp)).trans kx; have cy := (b1.cell (p := ⟨w.heap.size, 1, none⟩) (by simp)).trans ky; have B1 := Lib.hid (bw.out.trans (b1.mono bw.out.size)); clear b1 h0 kx ky)
            | (go_at_call 11; (with_reducible refine (pt_pop _ _ _ _ _ _ _ _ _ h1 hA'.out hB'.out (by omega) hn).mono ?_); rintro e w2 ⟨a2, c2, x2, d2, rfl, hL2, hT2, b2⟩; have h2 := h1.below b2; have B2 := Lib.hid (B1.out.trans (b2.mono B1.out.size)); clear h1 b2)
            | (go_at_call 11; (have hp8 := hL2; rw [hA12.out] at hp8; (with_reducible refine (pt_pop _ _ _ _ _ _ _ _ _ hp8 hA1.out hA2.out (by omega) hmn).mono ?_); clear hp8); rintro e w3 ⟨a3, c3, x3, d3, rfl, hU3, hM3, b3⟩; have h3 := h2.below b3; have hL3 := hL2.below b3; have hT3 := hT2.below b3; have B3 := Lib.hid (B2.out.trans (b3.mono B2.out.size)); clear h2 hL2 hT2 b3)
            | (go_at_call 11; (have hp7 := h3; rw [hA12.out, List.append_assoc] at hp7; (with_reducible refine (pt_pop _ _ _ _ s _ _ _ _ hp7 hA1.out hAB.out (by omega) hn).mono ?_); clear hp7); rintro e w4 ⟨a4, c4, x4, d4, rfl, hV4, hW4, b4⟩; have h4 := h3.below b4; have hL4 := hL3.below b4; have hT4 := hT3.below b4; have hU4 := hU3.below b4; have hM4 := hM3.below b4; have B4 := Lib.hid (B3.out.trans (b4.mono B3.out.size)); clear h3 hL3 hT3 hU3 hM3 b4)
            | (go_at_call 14; (with_reducible refine (pt_nopick _ _ _ _ _ _ h4 (by omega) (by omega)).mono ?_); rintro e w5 ⟨rfl, b5⟩; have hT5 := hT4.below b5; have hU5 := hU4.below b5; have hM5 := hM4.below b5; have hV5 := hV4.below b5; have hW5 := hW4.below b5; have B5 := Lib.hid (B4.out.trans (b5.mono B4.out.size)); clear h4 b5; clear hT4 hU4 hM4 hV4 hW4)
            | (go_at_call 13; (with_reducible refine (same_any _ _ _ _ _ _ _ _ hU5 hV5).mono ?_); rintro e w6 ⟨rfl, b6⟩; have hT6 := hT5.below b6; have hM6 := hM5.below b6; have hW6 := hW5.below b6; have B6 := Lib.hid (B5.out.trans (b6.mono B5.out.size)); obtain ⟨a7, c7, w7, r7, O7, b7⟩ := app_new (ty := 22) hM6 (by omega); obtain ⟨a8, c8, w8, r8, O8, b8⟩ := app_ints (ty := 22) O7 (hT6.below b7) (by omega) b7.size; rw [← hs'.out] at r8 O8; have r7' := Lib.hid r7; have r8' := Lib.hid r8; have M8 := O8.sl; have hW8 := hW6.below (b7.trans b8); have B8 := Lib.hid (B6.out.trans ((b7.trans b8).mono B6.out.size)); clear hT5 hU5 hM5 hV5 hW5 hT6 hM6 hW6 r7 r8 O7 O8 b6 b7 b8)
            | (at_builtin; refine wpList_append_run_g (by first | rfl | kernel_rfl) (.tmp 123) (.tmp 124) 22 rfl _ _ _ rfl rfl r7'.out ?_)
            | (at_builtin; refine wpList_append_run_g (by first | rfl | kernel_rfl) (.tmp 125) (.tmp 126) 22 rfl _ _ _ rfl rfl r8'.out ?_)
            | (go_at_call 13; (with_reducible refine (same_any _ _ _ _ _ _ _ _ M8 hW8).mono ?_); rintro e w9 ⟨rfl, b9'⟩; have B9 := Lib.hid (B8.out.trans (b9'.mono B8.out.size)); clear M8 hW8 b9'))
      go_ret
      exact ⟨rfl, B9.out⟩
    · have hqm2 : q ≤ m := by omega
      clear hr hqm
      obtain ⟨j, hj⟩ : ∃ j, m = j + 1 := ⟨m - 1, by omega⟩
      obtain ⟨pre, y, hAy⟩ : ∃ pre y, Hid (A = pre ++ [y]) := ⟨A.take j, A.getD j 0, by
        show A = A.take j ++ [A.getD j 0]
        have e : A = A.take j ++ A.drop j := (List.take_append_drop j A).symm
        conv => lhs; rw [e]
        rw [List.drop_eq_getElem_cons (i := j) (l := A) (by omega), List.drop_eq_nil_of_le (by omega)]
        simp [List.getD, show j < A.length by omega]⟩
      have hy9 : Hid (A.getD j 0 = y) := by
        have e : j = pre.length := by have h1 := hA'.out; have h2 := hAy.out; rw [h2] at h1; simp at h1; omega
        show A.getD j 0 = y
        rw [hAy.out, e]
        simp [List.getD]
      have e1 : (m : Int) - 1 = (j : Int) := by omega
      have hpl : p < len0 := by omega
      have hm1 : 0 < m := by omega
      have hjm : j < m := by omega
      clear hm hA hB hp hq hpn hj hm0
      go_enter Try.func7, Try.ntmps7
      go_wp2_with (first
            | (go_at_call 8; refine (awake_any _).mono ?_; rintro e w1 ⟨rfl, b1⟩; have h1 := h0.below b1; have cx := (b1.cell (p := ⟨w.heap.size, 0, none⟩) (by simp)).trans kx; have cy := (b1.cell (p := ⟨w.heap.size, 1, none⟩) (by simp)).trans ky; have B1 := Lib.hid (bw.out.trans (b1.mono bw.out.size)); clear b1 h0 kx ky)
            | (go_at_call 11; (with_reducible refine (pt_pop _ _ _ _ _ _ _ _ _ h1 hA'.out hB'.out (by omega) hn).mono ?_); rintro e w2 ⟨a2, c2, x2, d2, rfl, hL2, hT2, b2⟩; have h2 := h1.below b2; have B2 := Lib.hid (B1.out.trans (b2.mono B1.out.size)); clear h1 b2)
            | (go_at_call 11; (have hp8 := hL2; rw [hA12.out] at hp8; (with_reducible refine (pt_pop _ _ _ _ _ _ _ _ _ hp8 hA1.out hA2.out (by omega) hmn).mono ?_); clear hp8); rintro e w3 ⟨a3, c3, x3, d3, rfl, hU3, hM3, b3⟩; have h3 := h2.below b3; have hL3 := hL2.below b3; have hT3 := hT2.below b3; have B3 := Lib.hid (B2.out.trans (b3.mono B2.out.size)); clear h2 hL2 hT2 b3)
            | (go_at_call 11; (have hp7 := h3; rw [hA12.out, List.append_assoc] at hp7; (with_reducible refine (pt_pop _ _ _ _ s _ _ _ _ hp7 hA1.out hAB.out (by omega) hn).mono ?_); clear hp7); rintro e w4 ⟨a4, c4, x4, d4, rfl, hV4, hW4, b4⟩; have h4 := h3.below b4; have hL4 := hL3.below b4; have hT4 := hT3.below b4; have hU4 := hU3.below b4; have hM4 := hM3.below b4; have B4 := Lib.hid (B3.out.trans (b4.mono B3.out.size)); clear h3 hL3 hT3 hU3 hM3 b4)
            | (go_at_call 14; (have hp9 := h4; rw [hAy.out] at hp9; (with_reducible refine (pt_pick _ _ _ _ _ _ _ _ hp9 hB'.out hn).mono ?_); clear hp9); rintro e w5 ⟨rfl, b5⟩; have hT5 := hT4.below b5; have hU5 := hU4.below b5; have hM5 := hM4.below b5; have hV5 := hV4.below b5; have hW5 := hW4.below b5; have hL5 := hL4.below b5; have B5 := Lib.hid (B4.out.trans (b5.mono B4.out.size)); obtain ⟨b9, o9, rfl, hc9⟩ := hL5.int (i := j) (by rw [hL5.nums]; omega); rw [hy9.out] at hc9; clear h4 hL4 b5; clear hT4 hU4 hM4 hV4 hW4)
            | (go_at_call 13; (with_reducible refine (same_any _ _ _ _ _ _ _ _ hU5 hV5).mono ?_); rintro e w6 ⟨rfl, b6⟩; have hT6 := hT5.below b6; have hM6 := hM5.below b6; have hW6 := hW5.below b6; have B6 := Lib.hid (B5.out.trans (b6.mono B5.out.size)); obtain ⟨a7, c7, w7, r7, O7, b7⟩ := app_new (ty := 22) hM6 (by omega); obtain ⟨a8, c8, w8, r8, O8, b8⟩ := app_ints (ty := 22) O7 (hT6.below b7) (by omega) b7.size; rw [← hs'.out] at r8 O8; have r7' := Lib.hid r7; have r8' := Lib.hid r8; have M8 := O8.sl; have hW8 := hW6.below (b7.trans b8); have B8 := Lib.hid (B6.out.trans ((b7.trans b8).mono B6.out.size)); clear hT5 hU5 hM5 hV5 hW5 hT6 hM6 hW6 r7 r8 O7 O8 b6 b7 b8)
            | (at_builtin; refine wpList_append_run_g (by first | rfl | kernel_rfl) (.tmp 123) (.tmp 124) 22 rfl _ _ _ rfl rfl r7'.out ?_)
            | (at_builtin; refine wpList_append_run_g (by first | rfl | kernel_rfl) (.tmp 125) (.tmp 126) 22 rfl _ _ _ rfl rfl r8'.out ?_)
            | (go_at_call 13; (with_reducible refine (same_any _ _ _ _ _ _ _ _ M8 hW8).mono ?_); rintro e w9 ⟨rfl, b9'⟩; have B9 := Lib.hid (B8.out.trans (b9'.mono B8.out.size)); clear M8 hW8 b9'))
      go_ret
      exact ⟨rfl, B9.out⟩

/-! ### THE ROW's STEP: WRITTEN OUT: LEAVE IT -/
set_option maxRecDepth 100000 in
theorem lifted (os : Os) (started : os.Started) (H : Type) (enc : TypeId × Value → H) :
    ReturnsInHanded {} Try.checked os 7 .any (Rows.stackPartsSpec.pre6 enc Try.prog Try.f7 Rows.stackPartsRow.domain false) (Rows.stackPartsSpec.post enc Try.prog Try.f7 false true false false) := by
  refine returnsInHanded_of_change (C := Try.checked) own started (by kernel_rfl) Try.func7
    (ChangeSpec.witness6 (enc := enc) (C := Try.checked) false ⟨#[], #[.slice none 0 0, .agg #[.int .u8 0, .int .u8 0]], []⟩ 8 (by kernel_rfl) (by kernel_rfl) (by kernel_rfl) (by kernel_rfl)) ?_
  intro W base args ds gs before hval0 hW hcnd _
  have hval : ∀ (j : Nat) t v, Try.f7.params[j]? = some t → args[j]? = some v → Value.okWide Try.prog W .any base t v := hval0
  have hW' := hW
  obtain ⟨p, q, hA0, hV, rfl, hfz, hnd⟩ := hW
  have hA : DataW.TrodAll enc Try.prog W 0 (fun _ => true) true Try.f7.params.toList args.toList ds p := hA0
  rw [Try.params7] at hA hval
  obtain ⟨v0, vs0, d0, ds0, p0, q0, hargs, rfl, rfl, h0, r0⟩ := trodAll_cons hA
  obtain ⟨v1, vs1, d1, ds1, p1, q1, rfl, rfl, rfl, h1, r1⟩ := trodAll_cons r0
  obtain ⟨rfl, rfl, rfl⟩ := trodAll_nil r1
  obtain rfl : args = #[v0, v1] := by cases args; simp_all
  obtain ⟨rfl, rfl⟩ := trodVars_none hV
  obtain ⟨a0, len0, cap0, rfl⟩ := okWide_slice Try.underlying22 (hval 0 22 v0 rfl rfl)
  have k0 := h0
  have lt0 : ∀ x ∈ p0, x.block < W.heap.size := by obtain ⟨m, hm⟩ := k0; exact DataW.trod_lt m _ _ _ hm
  obtain ⟨z0, w0⟩ : ∃ zs, IsRow .i64 W a0 len0 cap0 zs := by
    obtain ⟨fuel, hf⟩ := h0
    rcases open_ints Try.underlying22 Try.underlying3 (by kernel_rfl) hf with ⟨hcs, _⟩ | ⟨x, l, c, zs, hcs, _, hl, hm, hz, _, hcell, hwz⟩
    · simp [Value.cells] at hcs
      obtain ⟨rfl, rfl, rfl⟩ := hcs
      exact ⟨[], .inl ⟨rfl, rfl, rfl, rfl⟩⟩
    · simp [Value.cells] at hcs
      obtain ⟨rfl, rfl, rfl⟩ := hcs
      exact ⟨zs, .inr ⟨_, rfl, hl, hm, by simpa using hz, hcell, hwz⟩⟩
  have k1 := h1
  have lt1 : ∀ x ∈ p1, x.block < W.heap.size := by obtain ⟨m, hm⟩ := k1; exact DataW.trod_lt m _ _ _ hm
  obtain ⟨a1x, a1y, rfl, w1x, w1y⟩ := open_ints2 Try.underlying36 Try.underlying5 (by kernel_rfl) (by kernel_rfl) (hval 1 36 v1 rfl rfl) h1
  clear hA0 hval0
  refine (walk a0 len0 cap0 z0 a1x a1y W w0 w1x w1y).mono fun e W' ⟨he, bel⟩ => ?_
  subst he
  exact ⟨_, rfl, _, _, _, [], _, [], hW', trodAll_mk1 (shut_bool Try.underlying4 _), (trodAll_cons_mk (Below.trod laidOut (by kernel_rfl) (of_decide_eq_true (by kernel_rfl)) k0 bel lt0) (trodAll_cons_mk (Below.trod laidOut (by kernel_rfl) (of_decide_eq_true (by kernel_rfl)) k1 bel lt1) trodAll_mk0)), rfl, bel.frame _, fun h => by cases h⟩

theorem over : Rows.stackPartsRow.holds Try.pinned (OpenSpec.ofChange Rows.stackPartsSpec) :=
  OpenClaim.holds_of_wide 7 Try.f7 rfl rfl rfl rfl rfl rfl rfl ⟨rfl, rfl, rfl, rfl, rfl⟩ rfl rfl rfl rfl rfl (by kernel_rfl) Try.func7 (by kernel_rfl)
    (of_decide_eq_true (by kernel_rfl)) (by unfold Func.isWrapper; first | (rw [if_pos (by decide +kernel)]; kernel_rfl) | (rw [if_neg (by decide +kernel)]; exact ⟨rfl, rfl⟩))
    (fun os started H enc _ => lifted os started H enc)

/-- ████ THE STATEMENT ████ -/
theorem proved : Rows.StackPartsSaid := over
#print axioms proved
end Go.Proofs.Ytfiaadejnjffeaa.stackParts
