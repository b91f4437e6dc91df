/- Plain arithmetic of cells and their bytes: what or makes of parts that do not meet; eight bytes as a cell, a cell as eight bytes; bytes set in a list. No program is named here. -/
import Derived.IntWalk
import Derived.RowKit
import Derived.Laws.Entries
namespace Go.Proofs.YtcjbfokindoicaaDoor.Me
set_option maxRecDepth 100000
open Go.RowKit

theorem wrapi (x : Int) : IntKind.i64.wrap x = wrap64 x := by
  have h : IntKind.i64.wrap x = if x % 18446744073709551616 ≥ 9223372036854775808 then x % 18446744073709551616 - 18446744073709551616 else x % 18446744073709551616 := by
    simp [IntKind.wrap, IntKind.bits, IntKind.signed]
  rw [h]
  unfold wrap64
  split <;> omega

/-- bits that do not meet: or is plus -/
theorem or_apart (k : Nat) (hk : k ≤ 63) (m y : Int) (h0 : 0 ≤ y) (h1 : y < 2 ^ k) : bits .or .i64 (wrap64 (m * 2 ^ k)) y = wrap64 (m * 2 ^ k + y) := by
  show IntKind.wrap .i64 ((BitVec.ofInt 64 (wrap64 (m * 2 ^ k)) ||| BitVec.ofInt 64 y).toNat : Nat) = _
  have hp : (0 : Int) < 2 ^ k := Int.pow_pos (by decide)
  have hpn : (0 : Nat) < 2 ^ k := Nat.pow_pos (by decide)
  have hs : (18446744073709551616 : Int) = 2 ^ k * 2 ^ (64 - k) := by rw [← Int.pow_add, show k + (64 - k) = 64 by omega]; rfl
  have hsn : (18446744073709551616 : Nat) = 2 ^ k * 2 ^ (64 - k) := by rw [← Nat.pow_add, show k + (64 - k) = 64 by omega]
  have hq0 : 0 ≤ m % 2 ^ (64 - k) := Int.emod_nonneg _ (by have : (0 : Int) < 2 ^ (64 - k) := Int.pow_pos (by decide); omega)
  have hq1 : m % 2 ^ (64 - k) < 2 ^ (64 - k) := Int.emod_lt_of_pos _ (Int.pow_pos (by decide))
  have e1 : wrap64 (m * 2 ^ k) % 18446744073709551616 = 2 ^ k * (m % 2 ^ (64 - k)) := by
    have : wrap64 (m * 2 ^ k) % 18446744073709551616 = (m * 2 ^ k) % 18446744073709551616 := by unfold wrap64; omega
    rw [this, hs, Int.mul_comm m, Int.mul_emod_mul_of_pos _ _ hp]
  obtain ⟨q, hq⟩ := Int.eq_ofNat_of_zero_le hq0
  obtain ⟨u, rfl⟩ := Int.eq_ofNat_of_zero_le h0
  have hu : u < 2 ^ k := by exact_mod_cast h1
  have hqn : q < 2 ^ (64 - k) := by rw [hq] at hq1; exact_mod_cast hq1
  have hle : 2 ^ k * q + u < 18446744073709551616 := by
    have h := Nat.mul_le_mul_left (2 ^ k) (show q + 1 ≤ 2 ^ (64 - k) by omega)
    rw [Nat.mul_add, Nat.mul_one, ← hsn] at h
    omega
  have hu64 : u < 18446744073709551616 := by omega
  have e2 : (BitVec.ofInt 64 (wrap64 (m * 2 ^ k))).toNat = 2 ^ k * q := by
    rw [BitVec.toNat_ofInt]
    show ((wrap64 (m * 2 ^ k)) % 18446744073709551616).toNat = _
    rw [e1, hq]
    have : (2 ^ k * (q : Int)) = ((2 ^ k * q : Nat) : Int) := by push_cast; rfl
    rw [this]
    omega
  have e3 : (BitVec.ofInt 64 (u : Int)).toNat = u := by
    rw [BitVec.toNat_ofInt]
    show ((u : Int) % 18446744073709551616).toNat = _
    omega
  rw [wrapi]
  have e4 : (BitVec.ofInt 64 (wrap64 (m * 2 ^ k)) ||| BitVec.ofInt 64 (u : Int)).toNat = 2 ^ k * q + u := by
    rw [BitVec.toNat_or, e2, e3, Nat.two_pow_add_eq_or_of_lt hu]
  rw [e4]
  have e5 : ((2 ^ k * q + u : Nat) : Int) = 2 ^ k * (m % 2 ^ (64 - k)) + u := by
    push_cast
    rw [hq]
  rw [e5, ← e1]
  show wrap64 (wrap64 (m * 2 ^ k) % 18446744073709551616 + ↑u) = wrap64 (m * 2 ^ k + ↑u)
  unfold wrap64
  omega

theorem or_comm (x y : Int) : bits .or .i64 x y = bits .or .i64 y x := by
  unfold bits
  simp only [BitVec.or_comm]

/-- so many bytes of a cell, the least one first -/
def sumN (xs : List Int) (p : Nat) : Nat → Int
  | 0 => 0
  | k + 1 => sumN xs p k + xs.getD (p + k) 0 * 256 ^ k
/-- a cell's bytes from the k-th on, as a number -/
def upN (xs : List Int) (p : Nat) (k : Nat) : Nat → Int
  | 0 => 0
  | j + 1 => xs.getD (p + k) 0 + 256 * upN xs p (k + 1) j
def byteOk (xs : List Int) : Prop := ∀ x ∈ xs, 0 ≤ x ∧ x < 256
theorem byteOk.get {xs : List Int} (h : byteOk xs) (i : Nat) : 0 ≤ xs.getD i 0 ∧ xs.getD i 0 < 256 := by
  by_cases hi : i < xs.length
  · simpa [List.getD, hi] using h xs[i] (List.getElem_mem hi)
  · simp [List.getD, List.getElem?_eq_none (Nat.le_of_not_lt hi)]

theorem sumN_bd {xs : List Int} (h : byteOk xs) (p : Nat) : ∀ k, 0 ≤ sumN xs p k ∧ sumN xs p k < 256 ^ k
  | 0 => ⟨Int.le_refl _, show (0 : Int) < 256 ^ 0 by decide⟩
  | k + 1 => by
    have ih := sumN_bd h p k
    have hb := h.get (p + k)
    have hp : (0 : Int) < 256 ^ k := Int.pow_pos (by decide)
    have h1 := Int.mul_le_mul_of_nonneg_right (show xs.getD (p + k) 0 ≤ 255 by omega) (Int.le_of_lt hp)
    have h2 := Int.mul_nonneg hb.1 (Int.le_of_lt hp)
    rw [show (256 : Int) ^ (k + 1) = 256 ^ k * 256 from Int.pow_succ ..]
    simp only [sumN]
    omega

theorem sum_up (xs : List Int) (p : Nat) : sumN xs p 8 = upN xs p 0 8 := by
  simp only [sumN, upN, Nat.zero_add, Nat.reduceAdd, Nat.add_zero]
  omega

/-- the cell at a place -/
def cellI (xs : List Int) (p : Nat) : Int := wrap64 (sumN xs p 8)
theorem cellI_bd (xs : List Int) (p : Nat) : -9223372036854775808 ≤ cellI xs p ∧ cellI xs p ≤ 9223372036854775807 := by unfold cellI wrap64; omega

/-- one byte more, above those that there are -/
theorem or_next {xs : List Int} (h : byteOk xs) (p k : Nat) (hk : k < 8) : bits .or .i64 (wrap64 (sumN xs p k)) (wrap64 (xs.getD (p + k) 0 * 2 ^ (8 * k))) = wrap64 (sumN xs p (k + 1)) := by
  have hb := sumN_bd h p k
  have e : (256 : Int) ^ k = 2 ^ (8 * k) := by rw [Int.pow_mul]; rfl
  have hw : wrap64 (sumN xs p k) = sumN xs p k := by
    have : (256 : Int) ^ k ≤ 256 ^ 7 := by
      have := Nat.pow_le_pow_right (show 0 < 256 by decide) (show k ≤ 7 by omega)
      exact Int.ofNat_le.2 this |> fun h => by simpa using h
    have h7 : (256 : Int) ^ 7 = 72057594037927936 := by decide
    unfold wrap64
    omega
  rw [hw, or_comm, or_apart (8 * k) (by omega) _ _ hb.1 (by rw [← e]; exact hb.2), ← e]
  simp only [sumN]
  congr 1
  omega

/-- one byte more, below those that there are -/
theorem or_below {xs : List Int} (h : byteOk xs) (p k j : Nat) : bits .or .i64 (wrap64 (wrap64 (upN xs p (k + 1) j) * 2 ^ 8)) (xs.getD (p + k) 0) = wrap64 (upN xs p k (j + 1)) := by
  have hb := h.get (p + k)
  have e : wrap64 (wrap64 (upN xs p (k + 1) j) * 2 ^ 8) = wrap64 (upN xs p (k + 1) j * 2 ^ 8) := by unfold wrap64; omega
  rw [e, or_apart 8 (by decide) _ _ hb.1 (show xs.getD (p + k) 0 < 256 from hb.2)]
  simp only [upN]
  congr 1
  omega

/-! ### a cell's bytes -/
def byteA (v : Int) (k : Nat) : Int := v / 256 ^ k % 256
theorem byteA_bd (v : Int) (k : Nat) : 0 ≤ byteA v k ∧ byteA v k < 256 := by unfold byteA; omega
theorem byteA_next (v : Int) (k : Nat) : byteA v (k + 1) = byteA (v / 256) k := by
  unfold byteA
  rw [Int.pow_succ, Int.mul_comm, ← Int.ediv_ediv_of_nonneg (by decide)]

def putN (xs : List Int) (p : Nat) (v : Int) : Nat → List Int
  | 0 => xs
  | k + 1 => (putN xs p v k).set (p + k) (byteA v k)
theorem putN_len (xs : List Int) (p : Nat) (v : Int) : ∀ k, (putN xs p v k).length = xs.length
  | 0 => rfl
  | k + 1 => by simp [putN, putN_len xs p v k]
theorem putN_get (xs : List Int) (p : Nat) (v : Int) (i : Nat) (hi : i < xs.length) : ∀ k, (putN xs p v k).getD i 0 = if p ≤ i ∧ i < p + k then byteA v (i - p) else xs.getD i 0
  | 0 => by rw [if_neg (by omega)]; rfl
  | k + 1 => by
    have ih := putN_get xs p v i hi k
    have hl := putN_len xs p v k
    simp only [putN]
    by_cases h : i = p + k
    · subst h
      rw [if_pos ⟨by omega, by omega⟩, show p + k - p = k by omega]
      simp [List.getD, hl, hi]
    · rw [show ((putN xs p v k).set (p + k) (byteA v k)).getD i 0 = (putN xs p v k).getD i 0 by
        simp only [List.getD]; rw [List.getElem?_set_ne (by omega)], ih]
      by_cases c : p ≤ i ∧ i < p + k
      · rw [if_pos c, if_pos (by omega)]
      · rw [if_neg c, if_neg (by omega)]
theorem mem_set_of {l : List Int} {n : Nat} {a x : Int} (h : x ∈ l.set n a) : x ∈ l ∨ x = a := List.mem_or_eq_of_mem_set h
theorem putN_ok {xs : List Int} (h : byteOk xs) (p : Nat) (v : Int) : ∀ k, byteOk (putN xs p v k)
  | 0 => h
  | k + 1 => fun x hx => by
    rcases mem_set_of hx with hx | rfl
    · exact putN_ok h p v k x hx
    · exact byteA_bd v k
theorem list_ext {xs ys : List Int} (hl : xs.length = ys.length) (h : ∀ i, i < xs.length → xs.getD i 0 = ys.getD i 0) : xs = ys := by
  apply List.ext_getElem hl
  intro i h1 h2
  have := h i h1
  simpa [List.getD, h1, h2] using this

/-- what was set is there -/
theorem cell_put (xs : List Int) (p : Nat) (v : Int) (hp : p + 8 ≤ xs.length) (hv : -9223372036854775808 ≤ v ∧ v ≤ 9223372036854775807) : cellI (putN xs p v 8) p = v := by
  have g : ∀ k, k < 8 → (putN xs p v 8).getD (p + k) 0 = byteA v k := fun k hk => by
    rw [putN_get xs p v (p + k) (by omega) 8, if_pos ⟨by omega, by omega⟩, show p + k - p = k by omega]
  unfold cellI
  simp only [sumN]
  rw [g 0 (by decide), g 1 (by decide), g 2 (by decide), g 3 (by decide), g 4 (by decide), g 5 (by decide), g 6 (by decide), g 7 (by decide)]
  simp only [byteA]
  unfold wrap64
  omega

/-- a cell's bytes are those that it was made of -/
theorem byte_cell {xs : List Int} (h : byteOk xs) (p k : Nat) (hk : k < 8) : byteA (cellI xs p) k = xs.getD (p + k) 0 := by
  have b0 := h.get (p + 0)
  have b1 := h.get (p + 1)
  have b2 := h.get (p + 2)
  have b3 := h.get (p + 3)
  have b4 := h.get (p + 4)
  have b5 := h.get (p + 5)
  have b6 := h.get (p + 6)
  have b7 := h.get (p + 7)
  unfold cellI
  simp only [sumN, byteA, wrap64]
  match k, hk with
  | 0, _ => omega
  | 1, _ => omega
  | 2, _ => omega
  | 3, _ => omega
  | 4, _ => omega
  | 5, _ => omega
  | 6, _ => omega
  | 7, _ => omega

/-- set to what it was, all is as before -/
theorem put_back {xs : List Int} (h : byteOk xs) (p : Nat) (v : Int) : putN (putN xs p v 8) p (cellI xs p) 8 = xs := by
  apply list_ext
  · simp [putN_len]
  · intro i hi
    rw [putN_len, putN_len] at hi
    rw [putN_get _ p _ i (by rw [putN_len]; exact hi), putN_get _ p _ i hi]
    by_cases c : p ≤ i ∧ i < p + 8
    · rw [if_pos c, byte_cell h p (i - p) (by omega), show p + (i - p) = i by omega]
    · rw [if_neg c, if_neg c]

theorem byteA_minus (k : Nat) : byteA (-1) k = 255 := by
  unfold byteA
  have hp : (0 : Int) < 256 ^ k := Int.pow_pos (by decide)
  have : (-1 : Int) / 256 ^ k = -1 := by
    exact Int.le_antisymm (by have := Int.ediv_lt_of_lt_mul hp (show (-1 : Int) < 0 * 256 ^ k by omega); omega) (by exact Int.le_ediv_of_mul_le hp (by omega))
  rw [this]
  decide
end Go.Proofs.YtcjbfokindoicaaDoor.Me
