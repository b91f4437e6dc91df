/- Names and their numbers; words that turn one another back; what words reckon fits together. Written by wip/gen/alunum.py. -/
import Derived.Test.YtobijdfnafnodaaGreatDoorAluLast
namespace Go.Proofs.YtobijdfnafnodaaGreatDoor
set_option maxRecDepth 100000
open Go.ChangeShapes Go.WideShapes Go.ChangeAt Go.RowKit
open Sk (Sl ints Own)
set_option linter.unusedVariables false

theorem nm_15 : Nm ⟨#[83, 87, 65, 80]⟩ 15 := ⟨[83, 87, 65, 80], by decide +kernel, by unfold On.bytesOk; decide, by decide, by decide +kernel, by unfold I64; omega⟩
theorem nm_13 : Nm ⟨#[68, 85, 80]⟩ 13 := ⟨[68, 85, 80], by decide +kernel, by unfold On.bytesOk; decide, by decide, by decide +kernel, by unfold I64; omega⟩
theorem nm_14 : Nm ⟨#[68, 82, 79, 80]⟩ 14 := ⟨[68, 82, 79, 80], by decide +kernel, by unfold On.bytesOk; decide, by decide, by decide +kernel, by unfold I64; omega⟩
theorem nm_23 : Nm ⟨#[50, 83, 87, 65, 80]⟩ 23 := ⟨[50, 83, 87, 65, 80], by decide +kernel, by unfold On.bytesOk; decide, by decide, by decide +kernel, by unfold I64; omega⟩
theorem nm_16 : Nm ⟨#[79, 86, 69, 82]⟩ 16 := ⟨[79, 86, 69, 82], by decide +kernel, by unfold On.bytesOk; decide, by decide, by decide +kernel, by unfold I64; omega⟩
theorem nm_21 : Nm ⟨#[50, 68, 85, 80]⟩ 21 := ⟨[50, 68, 85, 80], by decide +kernel, by unfold On.bytesOk; decide, by decide, by decide +kernel, by unfold I64; omega⟩
theorem nm_22 : Nm ⟨#[50, 68, 82, 79, 80]⟩ 22 := ⟨[50, 68, 82, 79, 80], by decide +kernel, by unfold On.bytesOk; decide, by decide, by decide +kernel, by unfold I64; omega⟩
theorem nm_24 : Nm ⟨#[50, 79, 86, 69, 82]⟩ 24 := ⟨[50, 79, 86, 69, 82], by decide +kernel, by unfold On.bytesOk; decide, by decide, by decide +kernel, by unfold I64; omega⟩
theorem nm_17 : Nm ⟨#[82, 79, 84]⟩ 17 := ⟨[82, 79, 84], by decide +kernel, by unfold On.bytesOk; decide, by decide, by decide +kernel, by unfold I64; omega⟩
theorem nm_47 : Nm ⟨#[73, 78, 86, 69, 82, 84]⟩ 47 := ⟨[73, 78, 86, 69, 82, 84], by decide +kernel, by unfold On.bytesOk; decide, by decide, by decide +kernel, by unfold I64; omega⟩
theorem nm_40 : Nm ⟨#[78, 69, 71, 65, 84, 69]⟩ 40 := ⟨[78, 69, 71, 65, 84, 69], by decide +kernel, by unfold On.bytesOk; decide, by decide, by decide +kernel, by unfold I64; omega⟩
theorem nm_28 : Nm ⟨#[43]⟩ 28 := ⟨[43], by decide +kernel, by unfold On.bytesOk; decide, by decide, by decide +kernel, by unfold I64; omega⟩
theorem nm_29 : Nm ⟨#[45]⟩ 29 := ⟨[45], by decide +kernel, by unfold On.bytesOk; decide, by decide, by decide +kernel, by unfold I64; omega⟩
theorem nm_42 : Nm ⟨#[77, 73, 78]⟩ 42 := ⟨[77, 73, 78], by decide +kernel, by unfold On.bytesOk; decide, by decide, by decide +kernel, by unfold I64; omega⟩
theorem nm_43 : Nm ⟨#[77, 65, 88]⟩ 43 := ⟨[77, 65, 88], by decide +kernel, by unfold On.bytesOk; decide, by decide, by decide +kernel, by unfold I64; omega⟩
theorem nm_45 : Nm ⟨#[79, 82]⟩ 45 := ⟨[79, 82], by decide +kernel, by unfold On.bytesOk; decide, by decide, by decide +kernel, by unfold I64; omega⟩
theorem nm_44 : Nm ⟨#[65, 78, 68]⟩ 44 := ⟨[65, 78, 68], by decide +kernel, by unfold On.bytesOk; decide, by decide, by decide +kernel, by unfold I64; omega⟩
theorem nm_46 : Nm ⟨#[88, 79, 82]⟩ 46 := ⟨[88, 79, 82], by decide +kernel, by unfold On.bytesOk; decide, by decide, by decide +kernel, by unfold I64; omega⟩
theorem nm_52 : Nm ⟨#[60]⟩ 52 := ⟨[60], by decide +kernel, by unfold On.bytesOk; decide, by decide, by decide +kernel, by unfold I64; omega⟩
theorem nm_53 : Nm ⟨#[62]⟩ 53 := ⟨[62], by decide +kernel, by unfold On.bytesOk; decide, by decide, by decide +kernel, by unfold I64; omega⟩
theorem nm_50 : Nm ⟨#[61]⟩ 50 := ⟨[61], by decide +kernel, by unfold On.bytesOk; decide, by decide, by decide +kernel, by unfold I64; omega⟩
theorem nm_51 : Nm ⟨#[60, 62]⟩ 51 := ⟨[60, 62], by decide +kernel, by unfold On.bytesOk; decide, by decide, by decide +kernel, by unfold I64; omega⟩

theorem four_top {xs : List Int} (h : 4 ≤ xs.length) : ∃ p a b c d, xs = p ++ [a, b, c, d] := by
  have hl : (xs.drop (xs.length - 4)).length = 4 := by rw [List.length_drop]; omega
  match hd : xs.drop (xs.length - 4), hl with
  | [a, b, c, d], _ => exact ⟨xs.take (xs.length - 4), a, b, c, d, by rw [← hd, List.take_append_drop]⟩
def Back (k1 k2 : Int) (ds : List Int) : Prop := (wordX k1 ds).length ≤ 999999 ∧ I64s (wordX k1 ds) ∧ wordX k2 (wordX k1 ds) = ds
theorem back_of {k1 k2 : Int} {ds es : List Int} (h1 : wordX k1 ds = es) (hl : es.length ≤ 999999) (hI : I64s es) (h2 : wordX k2 es = ds) : Back k1 k2 ds := by
  unfold Back
  rw [h1]
  exact ⟨hl, hI, h2⟩
theorem i64s_app {p vs : List Int} (hp : I64s p) (hv : I64s vs) : I64s (p ++ vs) := fun x hx => by
  rcases List.mem_append.1 hx with h | h
  · exact hp x h
  · exact hv x h
theorem wrap_i64 (x : Int) : I64 (wrap64 x) := by unfold I64 wrap64; omega
theorem inv_inv (x : Int) : -1 - (-1 - x) = x := by omega
theorem neg_neg_cell (x : Int) (h : I64 x) : wrap64 (-(wrap64 (-x))) = x := by unfold I64 at h; unfold wrap64; omega

theorem moves_law (p : List Int) (a b c d : Int) (hl : p.length ≤ 36) (hp : I64s p) (ha : I64 a) (hb : I64 b) (hc : I64 c) (hd : I64 d) :
    Back 15 15 (p ++ [a, b, c, d]) ∧ Back 13 14 (p ++ [a, b, c, d]) ∧ Back 23 23 (p ++ [a, b, c, d]) ∧ Back 16 14 (p ++ [a, b, c, d]) ∧ Back 21 22 (p ++ [a, b, c, d]) ∧ Back 24 22 (p ++ [a, b, c, d]) ∧ Back 47 47 (p ++ [a, b, c, d]) ∧ Back 40 40 (p ++ [a, b, c, d]) := by
  refine ⟨?_, ?_, ?_, ?_, ?_, ?_, ?_, ?_⟩
  · have e1 : wordX 15 (p ++ [a, b, c, d]) = p ++ [a, b, d, c] := by
      have := wordX_tk (k := 15) (m := 2) (h := rfl) (p ++ [a, b]) [c, d] [d, c] rfl rfl (by simp; omega)
      simpa using this
    have e2 : wordX 15 (p ++ [a, b, d, c]) = p ++ [a, b, c, d] := by
      have := wordX_tk (k := 15) (m := 2) (h := rfl) (p ++ [a, b]) [d, c] [c, d] rfl rfl (by simp; omega)
      simpa using this
    refine back_of e1 (by simp; omega) (i64s_app hp ?_) (by exact e2)
    intro x hx
    simp only [List.mem_cons, List.not_mem_nil, or_false] at hx
    rcases hx with rfl | rfl | rfl | rfl
    · exact ha
    · exact hb
    · exact hd
    · exact hc
  · have e1 : wordX 13 (p ++ [a, b, c, d]) = p ++ [a, b, c, d, d] := by
      have := wordX_tk (k := 13) (m := 1) (h := rfl) (p ++ [a, b, c]) [d] [d, d] rfl rfl (by simp; omega)
      simpa using this
    have e2 : wordX 14 (p ++ [a, b, c, d, d]) = p ++ [a, b, c, d] := by
      have := wordX_tk (k := 14) (m := 1) (h := rfl) (p ++ [a, b, c, d]) [d] [] rfl rfl (by simp; omega)
      simpa using this
    refine back_of e1 (by simp; omega) (i64s_app hp ?_) (by exact e2)
    intro x hx
    simp only [List.mem_cons, List.not_mem_nil, or_false] at hx
    rcases hx with rfl | rfl | rfl | rfl | rfl
    · exact ha
    · exact hb
    · exact hc
    · exact hd
    · exact hd
  · have e1 : wordX 23 (p ++ [a, b, c, d]) = p ++ [c, d, a, b] := by
      have := wordX_tk (k := 23) (m := 4) (h := rfl) (p ++ []) [a, b, c, d] [c, d, a, b] rfl rfl (by simp; omega)
      simpa using this
    have e2 : wordX 23 (p ++ [c, d, a, b]) = p ++ [a, b, c, d] := by
      have := wordX_tk (k := 23) (m := 4) (h := rfl) (p ++ []) [c, d, a, b] [a, b, c, d] rfl rfl (by simp; omega)
      simpa using this
    refine back_of e1 (by simp; omega) (i64s_app hp ?_) (by exact e2)
    intro x hx
    simp only [List.mem_cons, List.not_mem_nil, or_false] at hx
    rcases hx with rfl | rfl | rfl | rfl
    · exact hc
    · exact hd
    · exact ha
    · exact hb
  · have e1 : wordX 16 (p ++ [a, b, c, d]) = p ++ [a, b, c, d, c] := by
      have := wordX_tk (k := 16) (m := 2) (h := rfl) (p ++ [a, b]) [c, d] [c, d, c] rfl rfl (by simp; omega)
      simpa using this
    have e2 : wordX 14 (p ++ [a, b, c, d, c]) = p ++ [a, b, c, d] := by
      have := wordX_tk (k := 14) (m := 1) (h := rfl) (p ++ [a, b, c, d]) [c] [] rfl rfl (by simp; omega)
      simpa using this
    refine back_of e1 (by simp; omega) (i64s_app hp ?_) (by exact e2)
    intro x hx
    simp only [List.mem_cons, List.not_mem_nil, or_false] at hx
    rcases hx with rfl | rfl | rfl | rfl | rfl
    · exact ha
    · exact hb
    · exact hc
    · exact hd
    · exact hc
  · have e1 : wordX 21 (p ++ [a, b, c, d]) = p ++ [a, b, c, d, c, d] := by
      have := wordX_tk (k := 21) (m := 2) (h := rfl) (p ++ [a, b]) [c, d] [c, d, c, d] rfl rfl (by simp; omega)
      simpa using this
    have e2 : wordX 22 (p ++ [a, b, c, d, c, d]) = p ++ [a, b, c, d] := by
      have := wordX_tk (k := 22) (m := 2) (h := rfl) (p ++ [a, b, c, d]) [c, d] [] rfl rfl (by simp; omega)
      simpa using this
    refine back_of e1 (by simp; omega) (i64s_app hp ?_) (by exact e2)
    intro x hx
    simp only [List.mem_cons, List.not_mem_nil, or_false] at hx
    rcases hx with rfl | rfl | rfl | rfl | rfl | rfl
    · exact ha
    · exact hb
    · exact hc
    · exact hd
    · exact hc
    · exact hd
  · have e1 : wordX 24 (p ++ [a, b, c, d]) = p ++ [a, b, c, d, a, b] := by
      have := wordX_tk (k := 24) (m := 4) (h := rfl) (p ++ []) [a, b, c, d] [a, b, c, d, a, b] rfl rfl (by simp; omega)
      simpa using this
    have e2 : wordX 22 (p ++ [a, b, c, d, a, b]) = p ++ [a, b, c, d] := by
      have := wordX_tk (k := 22) (m := 2) (h := rfl) (p ++ [a, b, c, d]) [a, b] [] rfl rfl (by simp; omega)
      simpa using this
    refine back_of e1 (by simp; omega) (i64s_app hp ?_) (by exact e2)
    intro x hx
    simp only [List.mem_cons, List.not_mem_nil, or_false] at hx
    rcases hx with rfl | rfl | rfl | rfl | rfl | rfl
    · exact ha
    · exact hb
    · exact hc
    · exact hd
    · exact ha
    · exact hb
  · have e1 : wordX 47 (p ++ [a, b, c, d]) = p ++ [a, b, c, (-1 - d)] := by
      have := wordX_tk (k := 47) (m := 1) (h := rfl) (p ++ [a, b, c]) [d] [(-1 - d)] rfl rfl (by simp; omega)
      simpa using this
    have e2 : wordX 47 (p ++ [a, b, c, (-1 - d)]) = p ++ [a, b, c, (-1 - (-1 - d))] := by
      have := wordX_tk (k := 47) (m := 1) (h := rfl) (p ++ [a, b, c]) [(-1 - d)] [(-1 - (-1 - d))] rfl rfl (by simp; omega)
      simpa using this
    refine back_of e1 (by simp; omega) (i64s_app hp ?_) (by rw [inv_inv] at e2; exact e2)
    intro x hx
    simp only [List.mem_cons, List.not_mem_nil, or_false] at hx
    rcases hx with rfl | rfl | rfl | rfl
    · exact ha
    · exact hb
    · exact hc
    · exact (by unfold I64 at hd ⊢; omega)
  · have e1 : wordX 40 (p ++ [a, b, c, d]) = p ++ [a, b, c, (wrap64 (-d))] := by
      have := wordX_tk (k := 40) (m := 1) (h := rfl) (p ++ [a, b, c]) [d] [(wrap64 (-d))] rfl rfl (by simp; omega)
      simpa using this
    have e2 : wordX 40 (p ++ [a, b, c, (wrap64 (-d))]) = p ++ [a, b, c, (wrap64 (-(wrap64 (-d))))] := by
      have := wordX_tk (k := 40) (m := 1) (h := rfl) (p ++ [a, b, c]) [(wrap64 (-d))] [(wrap64 (-(wrap64 (-d))))] rfl rfl (by simp; omega)
      simpa using this
    refine back_of e1 (by simp; omega) (i64s_app hp ?_) (by rw [neg_neg_cell d hd] at e2; exact e2)
    intro x hx
    simp only [List.mem_cons, List.not_mem_nil, or_false] at hx
    rcases hx with rfl | rfl | rfl | rfl
    · exact ha
    · exact hb
    · exact hc
    · exact (wrap_i64 _)
theorem rot_law (p : List Int) (a b c d : Int) (hl : p.length ≤ 36) : wordX 17 (p ++ [a, b, c, d]) = p ++ [a, c, d, b] ∧ wordX 17 (p ++ [a, c, d, b]) = p ++ [a, d, b, c] ∧ wordX 17 (p ++ [a, d, b, c]) = p ++ [a, b, c, d] := by
  have e1 : wordX 17 (p ++ [a, b, c, d]) = p ++ [a, c, d, b] := by
    have := wordX_tk (k := 17) (m := 3) (h := rfl) (p ++ [a]) [b, c, d] [c, d, b] rfl rfl (by simp; omega)
    simpa using this
  have e2 : wordX 17 (p ++ [a, c, d, b]) = p ++ [a, d, b, c] := by
    have := wordX_tk (k := 17) (m := 3) (h := rfl) (p ++ [a]) [c, d, b] [d, b, c] rfl rfl (by simp; omega)
    simpa using this
  have e3 : wordX 17 (p ++ [a, d, b, c]) = p ++ [a, b, c, d] := by
    have := wordX_tk (k := 17) (m := 3) (h := rfl) (p ++ [a]) [d, b, c] [b, c, d] rfl rfl (by simp; omega)
    simpa using this
  exact ⟨e1, e2, e3⟩

/-! ### what words reckon -/
theorem nat_or (X : Nat) : ∀ Y : Nat, X ||| Y = (X &&& Y) + (X ^^^ Y) := by
  induction X using Nat.strongRecOn with
  | ind X ih =>
    intro Y
    by_cases h : X = 0
    · subst h; simp
    · have ih := ih (X / 2) (by omega) (Y / 2)
      have d1 : (X ||| Y) / 2 = X / 2 ||| Y / 2 := Nat.or_div_two
      have d2 : (X &&& Y) / 2 = X / 2 &&& Y / 2 := Nat.and_div_two
      have d3 : (X ^^^ Y) / 2 = X / 2 ^^^ Y / 2 := Nat.xor_div_two
      have m1 : (X ||| Y) % 2 = (X % 2 ||| Y % 2) := by have := @Nat.or_mod_two_pow X Y 1; simpa using this
      have m2 : (X &&& Y) % 2 = (X % 2 &&& Y % 2) := by have := @Nat.and_mod_two_pow X Y 1; simpa using this
      have m3 : (X ^^^ Y) % 2 = (X % 2 ^^^ Y % 2) := by have := @Nat.xor_mod_two_pow X Y 1; simpa using this
      have hx : X % 2 = 0 ∨ X % 2 = 1 := by omega
      have hy : Y % 2 = 0 ∨ Y % 2 = 1 := by omega
      have hm : (X % 2 ||| Y % 2) = (X % 2 &&& Y % 2) + (X % 2 ^^^ Y % 2) := by rcases hx with e | e <;> rcases hy with f | f <;> rw [e, f] <;> rfl
      omega
theorem bits_or (a b : Int) : wrap64 (bits .and .i64 a b + bits .xor .i64 a b) = bits .or .i64 a b := by
  show wrap64 (IntKind.wrap .i64 ((BitVec.ofInt 64 a &&& BitVec.ofInt 64 b).toNat : Nat) + IntKind.wrap .i64 ((BitVec.ofInt 64 a ^^^ BitVec.ofInt 64 b).toNat : Nat)) = IntKind.wrap .i64 ((BitVec.ofInt 64 a ||| BitVec.ofInt 64 b).toNat : Nat)
  rw [BitVec.toNat_or, BitVec.toNat_and, BitVec.toNat_xor, nat_or]
  generalize (BitVec.ofInt 64 a).toNat &&& (BitVec.ofInt 64 b).toNat = x
  generalize (BitVec.ofInt 64 a).toNat ^^^ (BitVec.ofInt 64 b).toNat = y
  rw [IntKind.wrap_i64, IntKind.wrap_i64, IntKind.wrap_i64]
  unfold wrap64
  push_cast
  omega
theorem sub_back (a b : Int) (ha : I64 a) : wrap64 (wrap64 (a + b) - b) = a := by unfold I64 at ha; unfold wrap64; omega
theorem div_back (a b : Int) (ha : I64 a) (hb : b ≠ 0) : wrap64 (wrap64 (Ce.dvQ a b * b) + Ce.dvR a b) = a := by
  unfold Ce.dvQ Ce.dvR
  rw [if_neg hb, if_neg hb]
  have h1 := Int.mul_fdiv_add_fmod a b
  rw [Int.mul_comm] at h1
  generalize a.fmod b = R at *
  generalize hF : a.fdiv b = F at *
  obtain ⟨j, hj⟩ : ∃ j, wrap64 F = F - 18446744073709551616 * j := ⟨(F + 9223372036854775808) / 18446744073709551616, by unfold wrap64; omega⟩
  rw [hj, Int.sub_mul, Int.mul_assoc]
  generalize F * b = P at *
  generalize j * b = J at *
  unfold I64 at ha
  unfold wrap64
  omega
theorem wordX_two {k : Int} {h : Int → Int → Int} (hk : phO k = some (twoW h)) (a b : Int) : wordX k [a, b] = [h a b] := by
  have := wordX_tk hk [] [a, b] [h a b] rfl rfl (by simp)
  simpa using this
theorem wordX_at {k : Int} {h : Int → Int → Bool} (hk : phO k = some (atW h)) (a b : Int) : wordX k [a, b] = [Ce.flagI (h a b)] := by
  have := wordX_tk hk [] [a, b] [Ce.flagI (h a b)] rfl rfl (by simp)
  simpa using this
theorem mod_law (a b : Int) : doR (phO 33) [a, b] 9 = (if b = 0 then ([], -10, true) else ([Ce.dvR a b, Ce.dvQ a b], 0, true)) := by
  show doR (some (tk 2 (divG [0, 1]))) [a, b] 9 = _
  by_cases hb : b = 0
  · rw [if_pos hb]
    have e : tk 2 (divG [0, 1]) [a, b] = .error (-10) := by
      have := tk_join (m := 2) (γ := divG [0, 1]) [] [a, b] rfl
      rw [List.nil_append] at this
      rw [this]
      show joinR [] (if b = 0 then .error (-10) else .ok (cho [0, 1] [Ce.dvR a b, Ce.dvQ a b])) = _
      rw [if_pos hb]
      rfl
    exact doR_err e 9
  · rw [if_neg hb]
    have e : tk 2 (divG [0, 1]) [a, b] = .ok ([], [Ce.dvR a b, Ce.dvQ a b]) := by
      have := tk_join (m := 2) (γ := divG [0, 1]) [] [a, b] rfl
      rw [List.nil_append] at this
      rw [this]
      show joinR [] (if b = 0 then .error (-10) else .ok (cho [0, 1] [Ce.dvR a b, Ce.dvQ a b])) = _
      rw [if_neg hb]
      rfl
    rw [doR_ok e 9]
    rfl
end Go.Proofs.YtobijdfnafnodaaGreatDoor
