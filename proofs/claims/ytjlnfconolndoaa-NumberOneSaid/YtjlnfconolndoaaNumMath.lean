/- Figures of a base, what a text tells: plain mathematics over lists of bytes, no program in it. -/
import Derived.Test.YtjlnfconolndoaaBelow
import Derived.WalkKit
import Derived.ProofKit
namespace Go.Proofs.Ytjlnfconolndoaa
open Go.ChangeShapes Go.WideShapes Go.ChangeAt Go.RowKit
set_option linter.unusedVariables false

/-- the figures of a number above 0; none of 0 -/
def pre (b m : Nat) : List Int := if h : m = 0 ∨ b < 2 then [] else pre b (m / b) ++ [((m % b : Nat) : Int)]
termination_by m
decreasing_by exact Nat.div_lt_self (by omega) (by omega)

theorem pre_zero (b : Nat) : pre b 0 = [] := by
  rw [pre]
  simp
theorem pre_pos {b m : Nat} (hb : 2 ≤ b) (hm : m ≠ 0) : pre b m = pre b (m / b) ++ [((m % b : Nat) : Int)] := by
  rw [pre]
  rw [dif_neg (by omega)]
/-- the figures of a number: at least one -/
def digs (b m : Nat) : List Int := pre b (m / b) ++ [((m % b : Nat) : Int)]
theorem digs_pos {b m : Nat} (hb : 2 ≤ b) (hm : m ≠ 0) : digs b m = pre b m := by rw [digs, pre_pos hb hm]
theorem digs_small {b m : Nat} (h : m < b) : digs b m = [(m : Int)] := by
  rw [digs, Nat.div_eq_of_lt h, Nat.mod_eq_of_lt h, pre_zero]
  rfl
theorem digs_big {b m : Nat} (hb : 2 ≤ b) (h : b ≤ m) : digs b m = digs b (m / b) ++ [((m % b : Nat) : Int)] := by
  have : m / b ≠ 0 := by
    have := Nat.div_pos h (by omega)
    omega
  rw [digs_pos hb this, digs]

theorem pre_induct {b : Nat} (hb : 2 ≤ b) {P : Nat → Prop} (h0 : P 0) (hs : ∀ m, m ≠ 0 → P (m / b) → P m) : ∀ m, P m := by
  intro m
  induction m using Nat.strongRecOn with
  | ind m ih =>
    by_cases h : m = 0
    · subst h
      exact h0
    · exact hs m h (ih _ (Nat.div_lt_self (by omega) (by omega)))

theorem pre_bd {b : Nat} (hb : 2 ≤ b) (m : Nat) : ∀ d ∈ pre b m, 0 ≤ d ∧ d < b := by
  induction m using pre_induct hb with
  | h0 => simp [pre_zero]
  | hs m hm ih =>
    intro d hd
    rw [pre_pos hb hm, List.mem_append, List.mem_singleton] at hd
    rcases hd with hd | rfl
    · exact ih d hd
    · have := Nat.mod_lt m (show b > 0 by omega)
      omega
theorem digs_bd {b : Nat} (hb : 2 ≤ b) (m : Nat) : ∀ d ∈ digs b m, 0 ≤ d ∧ d < b := by
  intro d hd
  rw [digs, List.mem_append, List.mem_singleton] at hd
  rcases hd with hd | rfl
  · exact pre_bd hb _ d hd
  · have := Nat.mod_lt m (show b > 0 by omega)
    omega

theorem pre_len {b : Nat} (hb : 2 ≤ b) : ∀ (k m : Nat), m < 2 ^ k → (pre b m).length ≤ k := by
  intro k
  induction k with
  | zero =>
    intro m hm
    have : m = 0 := by simpa using hm
    subst this
    simp [pre_zero]
  | succ k ih =>
    intro m hm
    by_cases h : m = 0
    · subst h
      simp [pre_zero]
    · rw [pre_pos hb h, List.length_append, List.length_singleton]
      have h2 : m / b ≤ m / 2 := Nat.div_le_div_left hb (by decide)
      have := ih (m / b) (by rw [Nat.pow_succ] at hm; omega)
      omega
theorem digs_len {b m : Nat} (hb : 2 ≤ b) (hm : m ≤ 9223372036854775808) : 1 ≤ (digs b m).length ∧ (digs b m).length ≤ 64 := by
  rw [digs, List.length_append, List.length_singleton]
  have h2 : m / b ≤ m / 2 := Nat.div_le_div_left hb (by decide)
  have := pre_len hb 63 (m / b) (by omega)
  omega

theorem pre_less {b c : Nat} (hb : 2 ≤ b) (hbc : b ≤ c) : ∀ m m', m ≤ m' → (pre c m).length ≤ (pre b m').length := by
  intro m
  induction m using pre_induct (show 2 ≤ c by omega) with
  | h0 => simp [pre_zero]
  | hs m hm ih =>
    intro m' h
    rw [pre_pos (by omega) hm, pre_pos hb (show m' ≠ 0 by omega), List.length_append, List.length_append, List.length_singleton, List.length_singleton]
    have h1 : m / c ≤ m / b := Nat.div_le_div_left hbc (by omega)
    have h2 : m / b ≤ m' / b := Nat.div_le_div_right h
    have := ih (m' / b) (by omega)
    omega
theorem digs_less {b c : Nat} (hb : 2 ≤ b) (hbc : b ≤ c) (m : Nat) : (digs c m).length ≤ (digs b m).length := by
  rw [digs, digs, List.length_append, List.length_append, List.length_singleton, List.length_singleton]
  have h1 : m / c ≤ m / b := Nat.div_le_div_left hbc (by omega)
  have := pre_less hb hbc (m / c) (m / b) h1
  omega

/-- the number that figures tell -/
def val (b : Int) (v : Int) (ds : List Int) : Int := ds.foldl (fun a d => a * b + d) v
theorem val_app (b v : Int) (xs : List Int) (d : Int) : val b v (xs ++ [d]) = val b v xs * b + d := by simp [val]
theorem val_pre {b : Nat} (hb : 2 ≤ b) (m : Nat) : val b 0 (pre b m) = m := by
  induction m using pre_induct hb with
  | h0 => simp [pre_zero, val]
  | hs m hm ih =>
    rw [pre_pos hb hm, val_app, ih]
    have := Nat.div_add_mod m b
    rw [← Int.natCast_mul, ← Int.natCast_add, Nat.mul_comm, this]
theorem val_digs {b : Nat} (hb : 2 ≤ b) (m : Nat) : val b 0 (digs b m) = m := by
  rw [digs, val_app, val_pre hb]
  have := Nat.div_add_mod m b
  rw [← Int.natCast_mul, ← Int.natCast_add, Nat.mul_comm, this]

/-- a figure's byte, and what a byte is as a figure -/
def fig (d : Int) : Int := if d < 10 then 48 + d else 55 + d
def figI (c : Int) : Int := if 48 ≤ c ∧ c ≤ 57 then c - 48 else if 65 ≤ c ∧ c ≤ 90 then c - 55 else if 97 ≤ c ∧ c ≤ 122 then c - 87 else 36
def figR (c : Int) : Int := if 48 ≤ c ∧ c ≤ 57 then c - 48 else if 65 ≤ c ∧ c ≤ 90 then c - 55 else if 97 ≤ c ∧ c ≤ 122 then c - 87 else -1
theorem fig_bd {d : Int} (h : 0 ≤ d ∧ d < 36) : 48 ≤ fig d ∧ fig d ≤ 90 := by unfold fig; split <;> omega
theorem figI_fig {d : Int} (h : 0 ≤ d ∧ d < 36) : figI (fig d) = d := by
  unfold fig figI
  split <;> (repeat' split) <;> omega
theorem figI_bd (c : Int) : 0 ≤ figI c ∧ figI c ≤ 36 := by unfold figI; (repeat' split) <;> omega
theorem figR_eq (c : Int) : (figI c = 36 ∧ figR c = -1) ∨ (figI c < 36 ∧ figR c = figI c) := by unfold figI figR; (repeat' split) <;> omega

def isB (b : Int) : Bool := decide (2 ≤ b ∧ b ≤ 36)
theorem isB_yes {b : Int} (h : 2 ≤ b ∧ b ≤ 36) : isB b = true := by simp [isB, h]
theorem isB_no {b : Int} (h : ¬ (2 ≤ b ∧ b ≤ 36)) : isB b = false := by simp [isB] at h ⊢; omega
theorem isB_bd {b : Int} (h : isB b = true) : 2 ≤ b ∧ b ≤ 36 := by simpa [isB] using h

/-- P5.1 -/
def putL (n b : Int) : List Int := if 2 ≤ b ∧ b ≤ 36 then (if n < 0 then [45] else []) ++ (digs b.toNat n.natAbs).map fig else []
theorem putL_no {n b : Int} (h : ¬ (2 ≤ b ∧ b ≤ 36)) : putL n b = [] := by rw [putL, if_neg h]
theorem putL_neg {n b : Int} (hb : 2 ≤ b ∧ b ≤ 36) (h : n < 0) : putL n b = 45 :: (digs b.toNat n.natAbs).map fig := by rw [putL, if_pos hb, if_pos h]; rfl
theorem putL_pos {n b : Int} (hb : 2 ≤ b ∧ b ≤ 36) (h : ¬ n < 0) : putL n b = (digs b.toNat n.natAbs).map fig := by rw [putL, if_pos hb, if_neg h]; rfl
theorem figs_bd {b : Int} (hb : 2 ≤ b ∧ b ≤ 36) (m : Nat) : ∀ x ∈ (digs b.toNat m).map fig, 48 ≤ x ∧ x ≤ 90 := by
  intro x hx
  obtain ⟨d, hd, rfl⟩ := List.mem_map.1 hx
  have := digs_bd (show 2 ≤ b.toNat by omega) m d hd
  exact fig_bd (by omega)
theorem putL_len {n b : Int} (hn : -9223372036854775808 ≤ n ∧ n ≤ 9223372036854775807) : (putL n b).length ≤ 65 := by
  by_cases hb : 2 ≤ b ∧ b ≤ 36
  · have := digs_len (b := b.toNat) (m := n.natAbs) (by omega) (by omega)
    by_cases h : n < 0
    · rw [putL_neg hb h]
      simp
      omega
    · rw [putL_pos hb h]
      simp
      omega
  · rw [putL_no hb]
    simp
theorem putL_byte (n b : Int) : ∀ x ∈ putL n b, 45 ≤ x ∧ x ≤ 90 := by
  by_cases hb : 2 ≤ b ∧ b ≤ 36
  · by_cases h : n < 0
    · rw [putL_neg hb h]
      intro x hx
      rcases List.mem_cons.1 hx with rfl | hx
      · decide
      · have := figs_bd hb _ x hx
        omega
    · rw [putL_pos hb h]
      intro x hx
      have := figs_bd hb _ x hx
      omega
  · rw [putL_no hb]
    simp
theorem putL_less {n b : Int} (hb : 2 ≤ b ∧ b + 1 ≤ 36) : (putL n (b + 1)).length ≤ (putL n b).length := by
  have := digs_less (b := b.toNat) (c := (b + 1).toNat) (by omega) (by omega) n.natAbs
  by_cases h : n < 0
  · rw [putL_neg (by omega) h, putL_neg (by omega) h]
    simp
    omega
  · rw [putL_pos (by omega) h, putL_pos (by omega) h]
    simp
    omega

/-- P5.2 -/
def rd (b : Int) : Int → List Int → Int × Bool
  | v, [] => (v, true)
  | v, c :: cs => if b ≤ figI c then (0, false) else rd b (wrap64 (wrap64 (v * b) + figI c)) cs
def isC : List Int → Int → Bool
  | [], _ => false
  | x :: _, c => x == c
def cutL (xs : List Int) (c : Int) : List Int := if isC xs c = true then xs.tail else xs
def signL (xs : List Int) : Int := if isC xs 35 = true then 10 else if isC xs 36 = true then 16 else if isC xs 37 = true then 2 else 0
def sgnL (xs : List Int) : List Int := if 0 < signL xs then xs.tail else xs
def wholeL (xs : List Int) (b : Int) : Int × Bool := if xs = [] ∨ isB b = false then (0, false) else rd b 0 xs
def quoL (xs : List Int) : Bool := decide (xs.length = 3 ∧ xs.getD 0 0 = 39 ∧ xs.getD 2 0 = 39)
def unL (xs : List Int) (b : Int) : Int × Bool := ((if isC xs 45 = true then wrap64 (-(wholeL (cutL xs 45) b).1) else (wholeL (cutL xs 45) b).1), (wholeL (cutL xs 45) b).2)
def takeL (xs : List Int) (b : Int) : Int × Bool := if quoL xs = true then (xs.getD 1 0, true) else unL (sgnL xs) (if 0 < signL xs then signL xs else b)

theorem rd_bd (b : Int) : ∀ (xs : List Int) (v : Int), (-9223372036854775808 ≤ v ∧ v ≤ 9223372036854775807) → -9223372036854775808 ≤ (rd b v xs).1 ∧ (rd b v xs).1 ≤ 9223372036854775807
  | [], v, h => h
  | c :: cs, v, h => by
    rw [rd]
    split
    · decide
    · exact rd_bd b cs _ (by unfold wrap64; omega)
theorem rd_end (b v : Int) : rd b v [] = (v, true) := rfl
theorem rd_no {b v c : Int} {cs : List Int} (h : b ≤ figI c) : rd b v (c :: cs) = (0, false) := by rw [rd, if_pos h]
theorem rd_on {b v c : Int} {cs : List Int} (h : ¬ b ≤ figI c) : rd b v (c :: cs) = rd b (wrap64 (wrap64 (v * b) + figI c)) cs := by rw [rd, if_neg h]
theorem wrap_step (v b d : Int) : wrap64 (wrap64 (wrap64 v * b) + d) = wrap64 (v * b + d) := by
  have h1 : wrap64 (wrap64 v * b) = wrap64 (v * b) := by
    have e : wrap64 v = v + 18446744073709551616 * (-((v + 9223372036854775808) / 18446744073709551616)) := by unfold wrap64; omega
    rw [e, Int.add_mul, Int.mul_assoc]
    generalize -((v + 9223372036854775808) / 18446744073709551616) * b = k
    unfold wrap64
    omega
  rw [h1]
  unfold wrap64
  omega
theorem rd_figs {b : Int} (hb : b ≤ 36) : ∀ (ds : List Int) (v : Int), (∀ d ∈ ds, 0 ≤ d ∧ d < b) → rd b (wrap64 v) (ds.map fig) = (wrap64 (val b v ds), true)
  | [], v, _ => rfl
  | d :: ds, v, h => by
    have h0 := h d (List.mem_cons_self ..)
    rw [List.map_cons, rd, figI_fig (by omega), if_neg (by omega), wrap_step, rd_figs hb ds (v * b + d) (fun x hx => h x (List.mem_cons_of_mem _ hx))]
    rfl
theorem wrap_id {n : Int} (h : -9223372036854775808 ≤ n ∧ n ≤ 9223372036854775807) : wrap64 n = n := by unfold wrap64; omega

theorem isC_no {xs : List Int} {c : Int} (h : ∀ x ∈ xs, x ≠ c) : isC xs c = false := by
  cases xs with
  | nil => rfl
  | cons x xs => simpa [isC] using h x (List.mem_cons_self ..)

theorem unL_put {n b : Int} (hb : 2 ≤ b ∧ b ≤ 36) (hn : -9223372036854775808 ≤ n ∧ n ≤ 9223372036854775807) : unL (putL n b) b = (n, true) := by
  have hne : (digs b.toNat n.natAbs).map fig ≠ [] := by simp [digs]
  have hd : ∀ d ∈ digs b.toNat n.natAbs, 0 ≤ d ∧ d < b := fun d hd => by
    have := digs_bd (show 2 ≤ b.toNat by omega) n.natAbs d hd
    omega
  have hw : wholeL ((digs b.toNat n.natAbs).map fig) b = (wrap64 (n.natAbs : Int), true) := by
    rw [wholeL, if_neg (by simp [isB_yes hb, digs])]
    have h1 := rd_figs hb.2 (digs b.toNat n.natAbs) 0 hd
    have h2 := val_digs (show 2 ≤ b.toNat by omega) n.natAbs
    rw [show ((b.toNat : Nat) : Int) = b by omega] at h2
    rw [h2] at h1
    rw [wrap_id (n := 0) (by decide)] at h1
    exact h1
  by_cases h : n < 0
  · have hc : cutL (putL n b) 45 = (digs b.toNat n.natAbs).map fig := by rw [putL_neg hb h]; rfl
    have hi : isC (putL n b) 45 = true := by rw [putL_neg hb h]; rfl
    rw [unL, hc, hi, hw]
    simp only [if_true, Prod.mk.injEq, and_true]
    unfold wrap64
    omega
  · have hi : isC (putL n b) 45 = false := isC_no fun x hx => by
      rw [putL_pos hb h] at hx
      have := figs_bd hb _ x hx
      omega
    have hc : cutL (putL n b) 45 = (digs b.toNat n.natAbs).map fig := by rw [cutL, if_neg (by simp [hi]), putL_pos hb h]
    rw [unL, hc, hi, hw]
    simp only [Bool.false_eq_true, if_false, Prod.mk.injEq, and_true]
    unfold wrap64
    omega

theorem take_put {n b : Int} (hb : 2 ≤ b ∧ b ≤ 36) (hn : -9223372036854775808 ≤ n ∧ n ≤ 9223372036854775807) : takeL (putL n b) b = (n, true) := by
  have hx := putL_byte n b
  have h0 : signL (putL n b) = 0 := by
    rw [signL, isC_no (fun x h => by have := hx x h; omega), isC_no (fun x h => by have := hx x h; omega), isC_no (fun x h => by have := hx x h; omega)]
    rfl
  have hq : quoL (putL n b) = false := by
    rw [quoL]
    simp only [decide_eq_false_iff_not]
    rintro ⟨h1, h2, _⟩
    cases hp : putL n b with
    | nil => rw [hp] at h1; simp at h1
    | cons x xs =>
      rw [hp] at h2 hx
      have := hx x (List.mem_cons_self ..)
      simp at h2
      omega
  rw [takeL, if_neg (by simp [hq]), sgnL, h0, if_neg (by decide), if_neg (by decide), unL_put hb hn]

theorem take_sign {n : Int} (base : Int) (hn : -9223372036854775808 ≤ n ∧ n ≤ 9223372036854775807) :
    takeL (35 :: putL n 10) base = (n, true) ∧ takeL (36 :: putL n 16) base = (n, true) ∧ takeL (37 :: putL n 2) base = (n, true) := by
  refine ⟨?_, ?_, ?_⟩
  · rw [takeL, if_neg (by simp [quoL]), show signL (35 :: putL n 10) = 10 from rfl, sgnL, show signL (35 :: putL n 10) = 10 from rfl, if_pos (by decide), if_pos (by decide), List.tail_cons, unL_put (by decide) hn]
  · rw [takeL, if_neg (by simp [quoL]), show signL (36 :: putL n 16) = 16 from rfl, sgnL, show signL (36 :: putL n 16) = 16 from rfl, if_pos (by decide), if_pos (by decide), List.tail_cons, unL_put (by decide) hn]
  · rw [takeL, if_neg (by simp [quoL]), show signL (37 :: putL n 2) = 2 from rfl, sgnL, show signL (37 :: putL n 2) = 2 from rfl, if_pos (by decide), if_pos (by decide), List.tail_cons, unL_put (by decide) hn]

theorem putL_inj {n m b : Int} (hb : 2 ≤ b ∧ b ≤ 36) (hn : -9223372036854775808 ≤ n ∧ n ≤ 9223372036854775807) (hm : -9223372036854775808 ≤ m ∧ m ≤ 9223372036854775807) (h : putL n b = putL m b) : n = m := by
  have h1 := take_put hb hn
  rw [h, take_put hb hm] at h1
  exact (congrArg Prod.fst h1).symm
end Go.Proofs.Ytjlnfconolndoaa
