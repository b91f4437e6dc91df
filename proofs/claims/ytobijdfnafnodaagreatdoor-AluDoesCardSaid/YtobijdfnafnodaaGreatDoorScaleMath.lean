/- Plain arithmetic of Scale: a product by a cell, rounded down, out of the sizes and the signs. No program is named here. -/
import Derived.Test.YtobijdfnafnodaaGreatDoorCellMath
namespace Go.Proofs.YtobijdfnafnodaaGreatDoor.Ce
set_option maxRecDepth 100000
open Go.RowKit

def absI (a : Int) : Int := if a < 0 then -a else a
theorem abs_bd (a : Int) (h : -9223372036854775808 ≤ a ∧ a ≤ 9223372036854775807) : 0 ≤ absI a ∧ absI a ≤ 9223372036854775808 := by unfold absI; split <;> omega
theorem abs_pos (a : Int) (h : a ≠ 0) : 0 < absI a := by unfold absI; split <;> omega
/-- an answer of Scale: is there a quotient that is a cell -/
def scO (P c : Int) : Bool := decide (c ≠ 0 ∧ -9223372036854775808 ≤ P.fdiv c ∧ P.fdiv c ≤ 9223372036854775807)
def scQ (P c : Int) : Int := if scO P c = true then P.fdiv c else 0
def scR (P c : Int) : Int := if scO P c = true then P.fmod c else 0
/-- a product has a minus sign -/
def minus (a b : Int) : Bool := decide (a < 0) != decide (b < 0)

theorem prod_sign (a b : Int) : a * b = if minus a b then -(absI a * absI b) else absI a * absI b := by
  unfold minus absI
  by_cases h1 : a < 0 <;> by_cases h2 : b < 0 <;> simp [h1, h2, Int.neg_mul, Int.mul_neg]
theorem cell_sign (c : Int) : c = if decide (c < 0) then -(absI c) else absI c := by
  unfold absI
  by_cases h1 : c < 0 <;> simp [h1]
/-- the quotient cut towards 0, and what it leaves, are those rounded down -/
theorem sc_keep (a b c : Int) (hc : c ≠ 0) (h : minus a b = decide (c < 0) ∨ absI a * absI b % absI c = 0) :
    (a * b).fdiv c = (if (minus a b != decide (c < 0)) = true then -(absI a * absI b / absI c) else absI a * absI b / absI c) ∧ (a * b).fmod c = (if minus a b = true then -(absI a * absI b % absI c) else absI a * absI b % absI c) := by
  have hP := prod_sign a b
  have hC := cell_sign c
  have hpos := abs_pos c hc
  generalize absI a * absI b = A at *
  generalize absI c = C at *
  generalize minus a b = m at *
  have hd := Int.mul_ediv_add_emod A C
  have h1 := Int.emod_nonneg A (show C ≠ 0 by omega)
  have h2 := Int.emod_lt_of_pos A hpos
  have key := @fdiv_of (a * b) c
  by_cases hcn : c < 0
  · simp only [hcn, decide_true, if_true] at *
    cases m
    · simp at *
      have := @key (-(A / C)) (A % C) (by rw [hP, hC, Int.neg_mul_neg]; exact hd) (by unfold Near; omega)
      exact ⟨this.1.symm, this.2.symm⟩
    · simp at *
      have := @key (A / C) (-(A % C)) (by rw [hP, hC, Int.neg_mul]; omega) (by unfold Near; omega)
      exact ⟨this.1.symm, this.2.symm⟩
  · simp only [hcn, decide_false] at *
    cases m
    · simp at *
      have := @key (A / C) (A % C) (by rw [hP, hC]; exact hd) (by unfold Near; omega)
      exact ⟨this.1.symm, this.2.symm⟩
    · simp at *
      have := @key (-(A / C)) (-(A % C)) (by rw [hP, hC, Int.mul_neg]; omega) (by unfold Near; omega)
      exact ⟨this.1.symm, this.2.symm⟩
theorem sc_down (a b c : Int) (hc : c ≠ 0) (h : minus a b ≠ decide (c < 0)) (h0 : 0 < absI a * absI b % absI c) :
    (a * b).fdiv c = -(absI a * absI b / absI c) - 1 ∧ (a * b).fmod c = (if minus a b = true then -(absI a * absI b % absI c) else absI a * absI b % absI c) + c := by
  have hP := prod_sign a b
  have hC := cell_sign c
  have hpos := abs_pos c hc
  generalize absI a * absI b = A at *
  generalize absI c = C at *
  generalize minus a b = m at *
  have hd := Int.mul_ediv_add_emod A C
  have h2 := Int.emod_lt_of_pos A hpos
  have key := @fdiv_of (a * b) c
  by_cases hcn : c < 0
  · simp only [hcn, decide_true, if_true] at *
    cases m
    · simp at *
      have := @key (-(A / C) - 1) (A % C + c) (by rw [hP, Int.mul_sub, Int.mul_one, Int.mul_neg, hC, Int.neg_mul]; omega) (by unfold Near; omega)
      exact ⟨this.1.symm, this.2.symm⟩
    · simp at h
  · simp only [hcn, decide_false] at *
    cases m
    · simp at h
    · simp at *
      have := @key (-(A / C) - 1) (-(A % C) + c) (by rw [hP, Int.mul_sub, Int.mul_one, Int.mul_neg, hC]; omega) (by unfold Near; omega)
      exact ⟨this.1.symm, this.2.symm⟩
theorem sc_yes (P c : Int) (hc : c ≠ 0) (h1 : -9223372036854775808 ≤ P.fdiv c) (h2 : P.fdiv c ≤ 9223372036854775807) : scO P c = true ∧ scQ P c = P.fdiv c ∧ scR P c = P.fmod c := by
  have h : scO P c = true := by unfold scO; exact decide_eq_true ⟨hc, h1, h2⟩
  exact ⟨h, by unfold scQ; rw [if_pos h], by unfold scR; rw [if_pos h]⟩
theorem sc_no (P c : Int) (h0 : c = 0 ∨ P.fdiv c < -9223372036854775808 ∨ 9223372036854775807 < P.fdiv c) : scO P c = false ∧ scQ P c = 0 ∧ scR P c = 0 := by
  have h : scO P c = false := by unfold scO; rw [decide_eq_false_iff_not]; omega
  exact ⟨h, by unfold scQ; rw [h]; rfl, by unfold scR; rw [h]; rfl⟩
/-- all of a scaling, with the quotient and what is left of the sizes: linear -/
structure Sc (a b c A C q0 r0 : Int) : Prop where
  A0 : 0 ≤ A
  A1 : A ≤ 85070591730234615865843651857942052864
  C0 : 0 < C
  C1 : C ≤ 9223372036854775808
  eA : absI a * absI b = A
  eC : absI c = C
  eq : A / C = q0
  er : A % C = r0
  qn : 0 ≤ q0
  ql : q0 ≤ A
  rn : 0 ≤ r0
  rl : r0 < C
  e : C * q0 + r0 = A
  cc : c = C ∨ c = -C
  keep : (minus a b = decide (c < 0) ∨ r0 = 0) → (a * b).fdiv c = (if (minus a b != decide (c < 0)) = true then -q0 else q0) ∧ (a * b).fmod c = (if minus a b = true then -r0 else r0)
  down : minus a b ≠ decide (c < 0) → 0 < r0 → (a * b).fdiv c = -q0 - 1 ∧ (a * b).fmod c = (if minus a b = true then -r0 else r0) + c
theorem sc_data (a b c : Int) (ha : -9223372036854775808 ≤ a ∧ a ≤ 9223372036854775807) (hb : -9223372036854775808 ≤ b ∧ b ≤ 9223372036854775807) (hc : -9223372036854775808 ≤ c ∧ c ≤ 9223372036854775807) (h0 : c ≠ 0) :
    ∃ A C q0 r0, Sc a b c A C q0 r0 := by
  have h1 := abs_bd a ha
  have h2 := abs_bd b hb
  have h3 := abs_bd c hc
  have h4 := abs_pos c h0
  have hA : 0 ≤ absI a * absI b := Int.mul_nonneg h1.1 h2.1
  have hA1 := Int.mul_le_mul h1.2 h2.2 h2.1 (by omega)
  refine ⟨absI a * absI b, absI c, _, _, ⟨hA, by omega, h4, h3.2, rfl, rfl, rfl, rfl, Int.ediv_nonneg hA h3.1, Int.ediv_le_self _ hA, Int.emod_nonneg _ (by omega), Int.emod_lt_of_pos _ h4, Int.mul_ediv_add_emod _ _, ?_, sc_keep a b c h0, sc_down a b c h0⟩⟩
  unfold absI; split <;> omega
/-- what a scaling answers, case by case -/
theorem Sc.big {a b c A C q0 r0 : Int} (s : Sc a b c A C q0 r0) (h : 9223372036854775808 < q0) : scO (a * b) c = false ∧ scQ (a * b) c = 0 ∧ scR (a * b) c = 0 := by
  refine sc_no _ _ (.inr ?_)
  by_cases hk : minus a b = decide (c < 0) ∨ r0 = 0
  · rw [(s.keep hk).1]; split <;> omega
  · have hr := s.rn
    rw [(s.down (fun e => hk (.inl e)) (by omega)).1]; omega
theorem Sc.same {a b c A C q0 r0 : Int} (s : Sc a b c A C q0 r0) (hc : c ≠ 0) (h : minus a b = decide (c < 0)) :
    (q0 ≤ 9223372036854775807 → scO (a * b) c = true ∧ scQ (a * b) c = q0 ∧ scR (a * b) c = (if c < 0 then -r0 else r0)) ∧ (9223372036854775808 ≤ q0 → scO (a * b) c = false ∧ scQ (a * b) c = 0 ∧ scR (a * b) c = 0) := by
  obtain ⟨e1, e2⟩ := s.keep (.inl h)
  rw [h] at e1 e2
  have e1 : (a * b).fdiv c = q0 := by rw [e1]; simp
  have e2 : (a * b).fmod c = (if c < 0 then -r0 else r0) := by rw [e2]; by_cases hcn : c < 0 <;> simp [hcn]
  have hq := s.qn
  constructor
  · intro hl
    obtain ⟨k1, k2, k3⟩ := sc_yes (a * b) c hc (by omega) (by omega)
    exact ⟨k1, by rw [k2, e1], by rw [k3, e2]⟩
  · intro hl
    exact sc_no _ _ (.inr (by omega))
theorem Sc.even {a b c A C q0 r0 : Int} (s : Sc a b c A C q0 r0) (hc : c ≠ 0) (h : minus a b ≠ decide (c < 0)) (h0 : r0 = 0) :
    (q0 ≤ 9223372036854775808 → scO (a * b) c = true ∧ scQ (a * b) c = -q0 ∧ scR (a * b) c = 0) := by
  obtain ⟨e1, e2⟩ := s.keep (.inr h0)
  have e1 : (a * b).fdiv c = -q0 := by rw [e1, if_pos (by simpa using h)]
  have e2 : (a * b).fmod c = 0 := by rw [e2, h0]; split <;> rfl
  have hq := s.qn
  intro hl
  obtain ⟨k1, k2, k3⟩ := sc_yes (a * b) c hc (by omega) (by omega)
  exact ⟨k1, by rw [k2, e1], by rw [k3, e2]⟩
theorem Sc.odd {a b c A C q0 r0 : Int} (s : Sc a b c A C q0 r0) (hc : c ≠ 0) (h : minus a b ≠ decide (c < 0)) (h0 : 0 < r0) :
    (q0 ≤ 9223372036854775807 → scO (a * b) c = true ∧ scQ (a * b) c = -q0 - 1 ∧ scR (a * b) c = (if minus a b = true then -r0 else r0) + c) ∧ (9223372036854775808 ≤ q0 → scO (a * b) c = false ∧ scQ (a * b) c = 0 ∧ scR (a * b) c = 0) := by
  obtain ⟨e1, e2⟩ := s.down h h0
  have hq := s.qn
  constructor
  · intro hl
    obtain ⟨k1, k2, k3⟩ := sc_yes (a * b) c hc (by omega) (by omega)
    exact ⟨k1, by rw [k2, e1], by rw [k3, e2]⟩
  · intro hl
    exact sc_no _ _ (.inr (by omega))
theorem Sc.over {a b c A C q0 r0 : Int} (s : Sc a b c A C q0 r0) (h : C ≤ A / 18446744073709551616) : 9223372036854775808 < q0 := by
  have h1 := s.e; have h2 := s.rl; have h3 := s.A0; have h4 := s.C0
  by_cases hq : 9223372036854775808 < q0
  · exact hq
  · have := Int.mul_le_mul_of_nonneg_left (show q0 ≤ 9223372036854775808 by omega) (show 0 ≤ C by omega)
    omega
theorem Sc.lim {a b c A C q0 r0 : Int} (s : Sc a b c A C q0 r0) (h : A / 18446744073709551616 < C) : q0 ≤ 18446744073709551615 := by
  have h1 := s.e; have h2 := s.rn; have h3 := s.A0; have h4 := s.C0
  by_cases hq : q0 ≤ 18446744073709551615
  · exact hq
  · have := Int.mul_le_mul_of_nonneg_left (show 18446744073709551616 ≤ q0 by omega) (show 0 ≤ C by omega)
    omega
theorem Sc.cneg {a b c A C q0 r0 : Int} (s : Sc a b c A C q0 r0) (h : c < 0) : c = -C := by
  have h1 := s.cc; have h4 := s.C0; omega
theorem Sc.cpos {a b c A C q0 r0 : Int} (s : Sc a b c A C q0 r0) (h : ¬ c < 0) : c = C := by
  have h1 := s.cc; have h4 := s.C0; omega
end Go.Proofs.YtobijdfnafnodaaGreatDoor.Ce
