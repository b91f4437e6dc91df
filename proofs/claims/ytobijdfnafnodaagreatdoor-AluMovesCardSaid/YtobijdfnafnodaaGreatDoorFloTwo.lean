import Derived.Laws.FloatBits
import Derived.Laws.FloatArith
import Derived.Test.YtobijdfnafnodaaGreatDoorRows
import Derived.WalkKit
import Derived.ProofKit
import Derived.OpenShut
import Derived.WalkLawsBesides
import Derived.WalkSpells
import Derived.Outline
import Derived.Lib.Hide
import Derived.Below
import Derived.Deep.QuietTactic
import Derived.BigQuiet
import Derived.IntWalk
import Derived.Laws.Externs
import Derived.Deep.RegionWith
import Derived.Carry
/- IEEE 754 doubles as rungs of one ladder: what reading, ordering and rounding give. Plain mathematics over the library's floats. -/
namespace Go.Proofs.YtobijdfnafnodaaGreatDoor.Fl
set_option maxRecDepth 100000
open Ieee

/-! ### the ladder: the value of a rung, in units of the least place -/
def rv (r : Nat) : Nat := if r < 4503599627370496 then r else (4503599627370496 + r % 4503599627370496) * 2 ^ (r / 4503599627370496 - 1)

theorem rv_at (q m : Nat) (hm : m < 4503599627370496) : rv ((q + 1) * 4503599627370496 + m) = (4503599627370496 + m) * 2 ^ q := by
  unfold rv
  rw [if_neg (by omega), show ((q + 1) * 4503599627370496 + m) % 4503599627370496 = m by omega, show ((q + 1) * 4503599627370496 + m) / 4503599627370496 - 1 = q by omega]
theorem rv_low (r : Nat) (h : r < 4503599627370496) : rv r = r := by unfold rv; rw [if_pos h]
theorem rv_band (e k : Nat) (h1 : 4503599627370496 ≤ k ∨ e = 0) (h2 : k ≤ 9007199254740992) : rv (e * 4503599627370496 + k) = k * 2 ^ e := by
  by_cases h : k < 4503599627370496
  · have : e = 0 := by omega
    subst this; rw [rv_low _ (by omega)]; simp
  · by_cases h' : k = 9007199254740992
    · subst h'
      have := rv_at (e + 1) 0 (by omega)
      rw [show (e + 1 + 1) * 4503599627370496 + 0 = e * 4503599627370496 + 9007199254740992 by omega] at this
      rw [this, Nat.pow_succ]; omega
    · have := rv_at e (k - 4503599627370496) (by omega)
      rw [show (e + 1) * 4503599627370496 + (k - 4503599627370496) = e * 4503599627370496 + k by omega] at this
      rw [this, show 4503599627370496 + (k - 4503599627370496) = k by omega]
theorem rv_succ (r : Nat) : rv r < rv (r + 1) := by
  by_cases h : r + 1 < 4503599627370496
  · rw [rv_low _ h, rv_low _ (by omega)]; omega
  · by_cases h1 : r < 4503599627370496
    · have : r = 4503599627370495 := by omega
      subst this; decide
    · have e1 := rv_at (r / 4503599627370496 - 1) (r % 4503599627370496) (by omega)
      rw [show (r / 4503599627370496 - 1 + 1) * 4503599627370496 + r % 4503599627370496 = r by omega] at e1
      have hp : 0 < 2 ^ (r / 4503599627370496 - 1) := Nat.two_pow_pos _
      have e2 := rv_band (r / 4503599627370496 - 1) (4503599627370496 + r % 4503599627370496 + 1) (by omega) (by omega)
      rw [show (r / 4503599627370496 - 1) * 4503599627370496 + (4503599627370496 + r % 4503599627370496 + 1) = r + 1 by omega] at e2
      rw [e1, e2, Nat.add_mul _ 1]; omega
theorem rv_lt {r s : Nat} (h : r < s) : rv r < rv s := by
  induction s with
  | zero => omega
  | succ s ih =>
    by_cases e : r = s
    · subst e; exact rv_succ r
    · exact Nat.lt_trans (ih (by omega)) (rv_succ s)
theorem rv_le {r s : Nat} (h : r ≤ s) : rv r ≤ rv s := by
  by_cases e : r = s
  · subst e; exact Nat.le_refl _
  · exact Nat.le_of_lt (rv_lt (by omega))
theorem lt_of_rv {r s : Nat} (h : rv r < rv s) : r < s := by
  by_cases k : r < s
  · exact k
  · have := rv_le (show s ≤ r by omega); omega
theorem le_of_rv {r s : Nat} (h : rv r ≤ rv s) : r ≤ s := by
  by_cases k : r ≤ s
  · exact k
  · have := rv_lt (show s < r by omega); omega
theorem rv_inj {r s : Nat} (h : rv r = rv s) : r = s := Nat.le_antisymm (le_of_rv (by omega)) (le_of_rv (by omega))

/-! ### the format's numbers -/
theorem d_binade : double.binade = 4503599627370496 := by decide
theorem d_inf : double.infRung = 9218868437227405312 := by decide
theorem d_sign : double.signWeight = 9223372036854775808 := by decide
theorem d_least : double.leastPlace = -1074 := by decide
theorem d_frac : double.fractionBits = 52 := rfl
def infR : Nat := 9218868437227405312

/-! ### reading -/
def ng (x : Nat) : Bool := x / 9223372036854775808 % 2 == 1
def rg (x : Nat) : Nat := x % 9223372036854775808
theorem read_fin (x : Nat) (h : rg x < infR) : ∃ m e, double.read x = .number (ng x) m e ∧ (-1074 : Int) ≤ e ∧ m * 2 ^ (e + 1074).toNat = rv (rg x) := by
  unfold rg infR at h
  by_cases h1 : rg x < 4503599627370496
  · refine ⟨rg x, -1074, ?_, by omega, ?_⟩
    · unfold Format.read; simp only [d_binade, d_inf, d_sign, d_least]
      unfold rg at h1 ⊢; rw [if_pos h1]; rfl
    · rw [rv_low _ h1]; simp
  · refine ⟨4503599627370496 + rg x % 4503599627370496, -1074 + (rg x / 4503599627370496 - 1 : Nat), ?_, by omega, ?_⟩
    · unfold Format.read; simp only [d_binade, d_inf, d_sign, d_least]
      unfold rg at h1 ⊢; rw [if_neg h1, if_pos h]; rfl
    · unfold rv; rw [if_neg h1, show (-1074 + ((rg x / 4503599627370496 - 1 : Nat) : Int) + 1074).toNat = rg x / 4503599627370496 - 1 by omega]
theorem read_inf (x : Nat) (h : rg x = infR) : double.read x = .infinity (ng x) := by
  unfold rg infR at h
  unfold Format.read; simp only [d_binade, d_inf, d_sign, d_least, h]
  rfl
theorem read_nan (x : Nat) (h : infR < rg x) : double.read x = .nan (ng x) (rg x - infR) := by
  unfold infR at h
  unfold Format.read; simp only [d_binade, d_inf, d_sign, d_least]
  unfold rg infR at *
  rw [if_neg (by omega), if_neg (by omega), if_neg (by omega)]; rfl

/-! ### the ordering -/
def nanB (x : Nat) : Bool := decide (infR < rg x)
/-- The signed value, infinity beyond all numbers. -/
def sv (x : Nat) : Int := if ng x then -(rv (rg x) : Int) else rv (rg x)

theorem pow_split (a b : Int) (h1 : (-1074 : Int) ≤ b) (h2 : b ≤ a) : (2 : Nat) ^ (a + 1074).toNat = 2 ^ (a - b).toNat * 2 ^ (b + 1074).toNat := by
  rw [← Nat.pow_add]; congr 1; omega
theorem signed_mul (s : Bool) (m : Nat) (i base : Int) (h1 : (-1074 : Int) ≤ base) (h2 : base ≤ i) :
    signed s m (i - base).toNat * (2 ^ (base + 1074).toNat : Nat) = if s then -((m * 2 ^ (i + 1074).toNat : Nat) : Int) else (m * 2 ^ (i + 1074).toNat : Nat) := by
  unfold signed
  rw [Nat.shiftLeft_eq, pow_split i base h1 h2, ← Nat.mul_assoc]
  cases s
  · simp
  · simp [Int.neg_mul]
theorem cmp_mul (a b : Int) (k : Nat) (hk : 0 < k) : compare (a * k) (b * k) = compare a b := by
  have hk' : (0 : Int) < k := by omega
  rcases Int.lt_trichotomy a b with h | h | h
  · rw [Int.compare_eq_lt.2 h, Int.compare_eq_lt.2 (Int.mul_lt_mul_of_pos_right h hk')]
  · subst h; simp
  · rw [Int.compare_eq_gt.2 h, Int.compare_eq_gt.2 (Int.mul_lt_mul_of_pos_right h hk')]
theorem rv_pos {r : Nat} (h : 0 < r) : 0 < rv r := Nat.lt_of_le_of_lt (Nat.zero_le _) (rv_lt h)
theorem rv_inf_pos : 0 < rv infR := rv_pos (by decide)
theorem order_num (x y : Nat) (hx : nanB x = false) (hy : nanB y = false) : double.order x y = some (compare (sv x) (sv y)) := by
  have hx' : rg x ≤ infR := by simpa [nanB] using hx
  have hy' : rg y ≤ infR := by simpa [nanB] using hy
  unfold Format.order
  by_cases ex : rg x = infR
  · by_cases ey : rg y = infR
    · rw [read_inf x ex, read_inf y ey]; unfold sv; rw [ex, ey]
      have := rv_inf_pos
      generalize rv infR = V at *
      cases ng x <;> cases ng y
      · exact Eq.trans (b := some Ordering.eq) (by decide) (congrArg some (Int.compare_eq_eq.2 rfl).symm)
      · exact Eq.trans (b := some Ordering.gt) (by decide) (congrArg some (Int.compare_eq_gt.2 (by simp; omega)).symm)
      · exact Eq.trans (b := some Ordering.lt) (by decide) (congrArg some (Int.compare_eq_lt.2 (by simp; omega)).symm)
      · exact Eq.trans (b := some Ordering.eq) (by decide) (congrArg some (Int.compare_eq_eq.2 rfl).symm)
    · obtain ⟨n, j, e, _, _⟩ := read_fin y (by omega)
      rw [read_inf x ex, e]; unfold sv; rw [ex]
      have := rv_lt (show rg y < infR by omega)
      cases ng x <;> cases ng y <;> simp [Datum.order] <;> first | (rw [eq_comm, Int.compare_eq_lt]; omega) | (rw [eq_comm, Int.compare_eq_gt]; omega)
  · obtain ⟨m, i, e1, hi, hm⟩ := read_fin x (by omega)
    by_cases ey : rg y = infR
    · rw [read_inf y ey, e1]; unfold sv; rw [ey]
      have := rv_lt (show rg x < infR by omega)
      cases ng x <;> cases ng y <;> simp [Datum.order] <;> first | (rw [eq_comm, Int.compare_eq_lt]; omega) | (rw [eq_comm, Int.compare_eq_gt]; omega)
    · obtain ⟨n, j, e2, hj, hn⟩ := read_fin y (by omega)
      rw [e1, e2]
      show some (compare (signed (ng x) m (i - min i j).toNat) (signed (ng y) n (j - min i j).toNat)) = _
      rw [← cmp_mul _ _ (2 ^ (min i j + 1074).toNat) (Nat.two_pow_pos _), signed_mul _ _ _ _ (by omega) (by omega), signed_mul _ _ _ _ (by omega) (by omega), hm, hn]
      rfl
theorem order_nan (x y : Nat) (h : nanB x = true ∨ nanB y = true) : double.order x y = none := by
  unfold Format.order
  rcases h with h | h
  · rw [read_nan x (by simpa [nanB] using h)]; rfl
  · rw [read_nan y (by simpa [nanB] using h)]; cases double.read x <;> rfl
theorem order_self (x : Nat) : (double.order x x == some .eq) = !nanB x := by
  cases h : nanB x
  · rw [order_num x x h h]; simp
  · rw [order_nan x x (.inl h)]; rfl
theorem order_swap (x y : Nat) : double.order y x = (double.order x y).map Ordering.swap := by
  cases hx : nanB x
  · cases hy : nanB y
    · rw [order_num x y hx hy, order_num y x hy hx]
      simp only [Option.map_some, Option.some.injEq]
      rcases Int.lt_trichotomy (sv x) (sv y) with h | h | h
      · rw [Int.compare_eq_lt.2 h, Int.compare_eq_gt.2 h]; rfl
      · rw [h]; simp
      · rw [Int.compare_eq_gt.2 h, Int.compare_eq_lt.2 h]; rfl
    · rw [order_nan x y (.inr hy), order_nan y x (.inl hy)]; rfl
  · rw [order_nan x y (.inl hx), order_nan y x (.inr hx)]; rfl
/-- x below y. -/
def ltB (x y : Nat) : Bool := double.order x y == some .lt
theorem lt_num (x y : Nat) (hx : nanB x = false) (hy : nanB y = false) : ltB x y = decide (sv x < sv y) := by
  unfold ltB; rw [order_num x y hx hy]
  rw [Bool.eq_iff_iff]; simp [Int.compare_eq_lt]
theorem lt_nan (x y : Nat) (h : nanB x = true ∨ nanB y = true) : ltB x y = false := by
  unfold ltB; rw [order_nan x y h]; rfl
theorem gt_lt (x y : Nat) : (double.order x y == some .gt) = ltB y x := by
  unfold ltB; rw [order_swap x y]
  cases double.order x y with
  | none => rfl
  | some o => cases o <;> rfl
def eqB (x y : Nat) : Bool := double.order x y == some .eq
theorem eq_num (x y : Nat) (hx : nanB x = false) (hy : nanB y = false) : eqB x y = decide (sv x = sv y) := by
  unfold eqB; rw [order_num x y hx hy]
  rw [Bool.eq_iff_iff]; simp
theorem eq_nan (x y : Nat) (h : nanB x = true ∨ nanB y = true) : eqB x y = false := by
  unfold eqB; rw [order_nan x y h]; rfl

/-! ### rounding -/
theorem cut_zero (way : Toward) (neg : Bool) (n : Nat) : way.cut neg n 0 = n := by
  have e : (1 <<< min 0 (n.log2 + 2)) = 1 := by simp
  unfold Toward.cut
  simp only [e]
  cases way <;> simp [Nat.mod_one]
theorem cut_even (neg : Bool) (n d : Nat) (h : d ≤ n.log2 + 2) : ∃ b : Bool, Toward.even.cut neg n d = n / 2 ^ d + b.toNat ∧ (n % 2 ^ d = 0 → b = false) := by
  have e : (1 <<< min d (n.log2 + 2)) = 2 ^ d := by rw [Nat.min_eq_left h, Nat.shiftLeft_eq, Nat.one_mul]
  have hp : 0 < 2 ^ d := Nat.two_pow_pos _
  unfold Toward.cut
  simp only [e]
  refine ⟨_, rfl, fun h0 => ?_⟩
  rw [h0]; simp
theorem rung_of (N e low rest : Nat) (b : Bool) (hN : N = low * 2 ^ e + rest) (hr : rest < 2 ^ e) (h1 : 4503599627370496 ≤ low ∨ e = 0) (h2 : low < 9007199254740992) (hb : rest = 0 → b = false) :
    (∀ s, rv s ≤ N → s ≤ e * 4503599627370496 + (low + b.toNat)) ∧ (∀ s, N ≤ rv s → e * 4503599627370496 + (low + b.toNat) ≤ s) := by
  have e1 := rv_band e low h1 (by omega)
  have e2 := rv_band e (low + 1) (by omega) (by omega)
  rw [Nat.add_mul, Nat.one_mul] at e2
  refine ⟨fun s hs => ?_, fun s hs => ?_⟩
  · have : s < e * 4503599627370496 + (low + 1) := lt_of_rv (by omega)
    omega
  · by_cases h0 : rest = 0
    · rw [hb h0]
      have := le_of_rv (show rv (e * 4503599627370496 + low) ≤ rv s by omega)
      simpa using this
    · have := lt_of_rv (show rv (e * 4503599627370496 + low) < rv s by omega)
      have : b.toNat ≤ 1 := Bool.toNat_le b
      omega
theorem log2_bd {n : Nat} (h : n ≠ 0) : 2 ^ n.log2 ≤ n ∧ n < 2 ^ (n.log2 + 1) := ⟨(Nat.le_log2 h).1 (Nat.le_refl _), (Nat.log2_lt h).1 (Nat.lt_succ_self _)⟩
theorem p52 : (2 : Nat) ^ 52 = 4503599627370496 := by decide
theorem p53 : (2 : Nat) ^ 53 = 9007199254740992 := by decide
/-- The rung to which 'mag * 2 ^ place' is rounded. -/
theorem nearest_rung (neg : Bool) (mag : Nat) (place : Int) (hp : (-1074 : Int) ≤ place) :
    ∃ r, r ≤ infR ∧ double.nearest neg mag place = double.word neg r ∧ (∀ s, s ≤ infR → rv s ≤ mag * 2 ^ (place + 1074).toNat → s ≤ r) ∧ (∀ s, mag * 2 ^ (place + 1074).toNat ≤ rv s → r ≤ s) := by
  by_cases h0 : mag = 0
  · subst h0
    refine ⟨0, Nat.zero_le _, ?_, fun s _ hs => ?_, fun s _ => Nat.zero_le _⟩
    · unfold Format.nearest; rw [if_pos rfl]
    · exact le_of_rv (by rw [show rv 0 = 0 from rfl]; omega)
  · unfold Format.nearest
    rw [if_neg h0]
    simp only [d_frac, d_least, d_binade, d_inf]
    obtain ⟨l1, l2⟩ := log2_bd h0
    generalize hl : mag.log2 = L at *
    generalize hlast : max (place + (L : Int) - ((52 : Nat) : Int)) (-1074) = last
    have hla : last = place + L - 52 ∨ last = -1074 := by omega
    have hlb : place + L - 52 ≤ last ∧ -1074 ≤ last := by omega
    -- where it is shifted up
    by_cases hs : last ≤ place
    · have ed : (last - place).toNat = 0 := by omega
      rw [ed, cut_zero, Nat.shiftLeft_eq]
      have eN : mag * 2 ^ (place + 1074).toNat = mag * 2 ^ (place - last).toNat * 2 ^ (last + 1074).toNat + 0 := by
        rw [pow_split place last hlb.2 hs, ← Nat.mul_assoc]; rfl
      have hlow : mag * 2 ^ (place - last).toNat < 9007199254740992 := by
        have a1 : mag * 2 ^ (place - last).toNat < 2 ^ (L + 1) * 2 ^ (place - last).toNat := Nat.mul_lt_mul_of_pos_right l2 (Nat.two_pow_pos _)
        rw [← Nat.pow_add] at a1
        have a2 : (2 : Nat) ^ (L + 1 + (place - last).toNat) ≤ 2 ^ 53 := Nat.pow_le_pow_right (by omega) (by omega)
        rw [p53] at a2; omega
      have hge : 4503599627370496 ≤ mag * 2 ^ (place - last).toNat ∨ (last + 1074).toNat = 0 := by
        rcases hla with h | h
        · left
          have a1 : 2 ^ L * 2 ^ (place - last).toNat ≤ mag * 2 ^ (place - last).toNat := Nat.mul_le_mul_right _ l1
          rw [← Nat.pow_add, show L + (place - last).toNat = 52 by omega, p52] at a1
          exact a1
        · right; omega
      obtain ⟨k1, k2⟩ := rung_of _ (last + 1074).toNat _ 0 false eN (Nat.two_pow_pos _) hge hlow (fun _ => rfl)
      simp only [Bool.toNat_false, Nat.add_zero] at k1 k2
      refine ⟨_, Nat.min_le_right _ _, rfl, fun s h1 h2 => ?_, fun s h2 => ?_⟩
      · rw [show (last - -1074) = last + 1074 by omega]; exact Nat.le_min.2 ⟨k1 s h2, h1⟩
      · rw [show (last - -1074) = last + 1074 by omega]; exact Nat.le_trans (Nat.min_le_left _ _) (k2 s h2)
    · have hl2 : last = place + L - 52 := by omega
      have ed : (place - last).toNat = 0 := by omega
      rw [ed, Nat.shiftLeft_zero]
      have hdd : (last - place).toNat + 52 = L := by omega
      obtain ⟨b, ec, hb⟩ := cut_even neg mag (last - place).toNat (by omega)
      rw [ec]
      generalize hd : (last - place).toNat = d at *
      have hm := Nat.div_add_mod mag (2 ^ d)
      have hml := Nat.mod_lt mag (Nat.two_pow_pos d)
      have es : 2 ^ (last + 1074).toNat = 2 ^ d * 2 ^ (place + 1074).toNat := by rw [pow_split last place hp (by omega), hd]
      have hpp : 0 < 2 ^ (place + 1074).toNat := Nat.two_pow_pos _
      have eN : mag * 2 ^ (place + 1074).toNat = mag / 2 ^ d * 2 ^ (last + 1074).toNat + mag % 2 ^ d * 2 ^ (place + 1074).toNat := by
        rw [es, ← Nat.mul_assoc, ← Nat.add_mul, Nat.mul_comm (mag / 2 ^ d), hm]
      have hr : mag % 2 ^ d * 2 ^ (place + 1074).toNat < 2 ^ (last + 1074).toNat := by
        rw [es]; exact Nat.mul_lt_mul_of_pos_right hml hpp
      have hlow : mag / 2 ^ d < 9007199254740992 := by
        rw [Nat.div_lt_iff_lt_mul (Nat.two_pow_pos d), ← p53, ← Nat.pow_add, show 53 + d = L + 1 by omega]; exact l2
      have hge : 4503599627370496 ≤ mag / 2 ^ d := by
        rw [Nat.le_div_iff_mul_le (Nat.two_pow_pos d), ← p52, ← Nat.pow_add, show 52 + d = L by omega]; exact l1
      obtain ⟨k1, k2⟩ := rung_of _ (last + 1074).toNat _ _ b eN hr (.inl hge) hlow (fun h => hb (by
        rcases Nat.mul_eq_zero.1 h with h | h
        · exact h
        · omega))
      refine ⟨_, Nat.min_le_right _ _, rfl, fun s h1 h2 => ?_, fun s h2 => ?_⟩
      · rw [show (last - -1074) = last + 1074 by omega]; exact Nat.le_min.2 ⟨k1 s h2, h1⟩
      · rw [show (last - -1074) = last + 1074 by omega]; exact Nat.le_trans (Nat.min_le_left _ _) (k2 s h2)

/-! ### words -/
theorem word_eq (neg : Bool) (r : Nat) : double.word neg r = if neg then 9223372036854775808 + r else r := by
  unfold Format.word; rw [d_sign]
theorem rg_word (neg : Bool) (r : Nat) (h : r < 9223372036854775808) : rg (double.word neg r) = r := by
  rw [word_eq]; unfold rg; cases neg <;> simp <;> omega
theorem ng_word (neg : Bool) (r : Nat) (h : r < 9223372036854775808) : ng (double.word neg r) = neg := by
  rw [word_eq]; unfold ng; cases neg
  · simp; omega
  · simp; omega
theorem word_self (x : Nat) (h : x < 18446744073709551616) : double.word (ng x) (rg x) = x := by
  rw [word_eq]; unfold ng rg
  by_cases h1 : x / 9223372036854775808 % 2 = 1
  · simp [h1]; omega
  · simp [h1]; omega
/-- What is a rung's value, rounded, is that rung. -/
theorem nearest_exact (neg : Bool) (mag : Nat) (place : Int) (hp : (-1074 : Int) ≤ place) (r : Nat) (hr : r ≤ infR) (h : mag * 2 ^ (place + 1074).toNat = rv r) : double.nearest neg mag place = double.word neg r := by
  obtain ⟨q, _, e, k1, k2⟩ := nearest_rung neg mag place hp
  have a := k1 r hr (by omega)
  have b := k2 r (by omega)
  rw [e, show q = r by omega]
end Go.Proofs.YtobijdfnafnodaaGreatDoor.Fl

/- Floats that stand in cells: floors, sums, cells as floats and back, in plain mathematics. -/
namespace Go.Proofs.YtobijdfnafnodaaGreatDoor.Fl
set_option maxRecDepth 100000
open Ieee

/-! ### cuts -/
theorem cut_gap (n d : Nat) : n / (1 <<< min d (n.log2 + 2)) = n / 2 ^ d ∧ (n % (1 <<< min d (n.log2 + 2)) = 0 ↔ n % 2 ^ d = 0) := by
  rw [Nat.shiftLeft_eq, Nat.one_mul]
  by_cases h : d ≤ n.log2 + 2
  · rw [Nat.min_eq_left h]; exact ⟨rfl, Iff.rfl⟩
  · rw [Nat.min_eq_right (by omega)]
    by_cases h0 : n = 0
    · subst h0; simp
    have l2 := (log2_bd h0).2
    have a1 : (2 : Nat) ^ (n.log2 + 1) ≤ 2 ^ (n.log2 + 2) := Nat.pow_le_pow_right (by omega) (by omega)
    have a2 : (2 : Nat) ^ (n.log2 + 1) ≤ 2 ^ d := Nat.pow_le_pow_right (by omega) (by omega)
    rw [Nat.div_eq_of_lt (show n < 2 ^ (n.log2 + 2) by omega), Nat.div_eq_of_lt (show n < 2 ^ d by omega), Nat.mod_eq_of_lt (show n < 2 ^ (n.log2 + 2) by omega), Nat.mod_eq_of_lt (show n < 2 ^ d by omega)]
    exact ⟨rfl, Iff.rfl⟩
theorem cut_down (neg : Bool) (n d : Nat) : Toward.down.cut neg n d = n / 2 ^ d + (neg && n % 2 ^ d != 0).toNat := by
  obtain ⟨e1, e2⟩ := cut_gap n d
  unfold Toward.cut
  simp only
  rw [e1]
  congr 2
  cases neg
  · rfl
  · simp only [Bool.true_and]; rw [Bool.eq_iff_iff, bne_iff_ne, bne_iff_ne, Ne, Ne, e2]
theorem cut_trunc (neg : Bool) (n d : Nat) : Toward.zero.cut neg n d = n / 2 ^ d := by
  unfold Toward.cut
  simp only
  rw [(cut_gap n d).1]; simp

/-! ### one, in units -/
def kk : Nat := 1074
def uu : Nat := 2 ^ kk
theorem uu_pos : 0 < uu := Nat.two_pow_pos _
theorem uu_of (e : Nat) (h : e = kk) : 2 ^ e = uu := by rw [h]; rfl
theorem rv_two (q j : Nat) (h : q + 52 = kk + j) : rv ((q + 1) * 4503599627370496) = 2 ^ j * uu := by
  have e := rv_at q 0 (by omega)
  rw [Nat.add_zero, show 4503599627370496 + 0 = 2 ^ 52 from rfl, ← Nat.pow_add 2 52 q, show 52 + q = j + kk by omega, Nat.pow_add] at e
  exact e
theorem uu_split (i : Int) (h0 : (-1074 : Int) ≤ i) (h : i < 0) : uu = 2 ^ (-i).toNat * 2 ^ (i + 1074).toNat := by
  rw [← Nat.pow_add]; exact (uu_of _ (by unfold kk; omega)).symm
theorem uu_up (i : Int) (h : 0 ≤ i) : 2 ^ (i + 1074).toNat = 2 ^ i.toNat * uu := by
  unfold uu; rw [← Nat.pow_add]; congr 1; unfold kk; omega
/-- Small whole numbers are rungs' values. -/
theorem rep (K : Nat) (h : K ≤ 9007199254740992) : ∃ t, t < infR ∧ rv t = K * uu := by
  by_cases h0 : K = 0
  · subst h0; exact ⟨0, by decide, by rw [Nat.zero_mul]; rfl⟩
  by_cases h1 : K = 9007199254740992
  · subst h1
    have e := rv_two 1075 53 rfl
    rw [p53] at e
    exact ⟨(1075 + 1) * 4503599627370496, by decide, e⟩
  obtain ⟨l1, l2⟩ := log2_bd h0
  generalize K.log2 = L at *
  have hL : L ≤ 52 := by
    by_cases k : L ≤ 52
    · exact k
    · have : (2 : Nat) ^ 53 ≤ 2 ^ L := Nat.pow_le_pow_right (by omega) (by omega)
      rw [p53] at this; omega
  have b1 : 4503599627370496 ≤ K * 2 ^ (52 - L) := by
    have := Nat.mul_le_mul_right (2 ^ (52 - L)) l1
    rw [← Nat.pow_add, show L + (52 - L) = 52 by omega, p52] at this; exact this
  have b2 : K * 2 ^ (52 - L) < 9007199254740992 := by
    have := Nat.mul_lt_mul_of_pos_right l2 (Nat.two_pow_pos (52 - L))
    rw [← Nat.pow_add, show L + 1 + (52 - L) = 53 by omega, p53] at this; exact this
  refine ⟨(1022 + L) * 4503599627370496 + K * 2 ^ (52 - L), by unfold infR; omega, ?_⟩
  rw [rv_band _ _ (.inl b1) (by omega), Nat.mul_assoc, ← Nat.pow_add, uu_of _ (show 52 - L + (1022 + L) = kk by unfold kk; omega)]
theorem read_fin' (x : Nat) (h : rg x < infR) : ∃ m e, double.read x = .number (ng x) m e ∧ (-1074 : Int) ≤ e ∧ m * 2 ^ (e + 1074).toNat = rv (rg x) ∧ m < 9007199254740992 := by
  obtain ⟨m, e, h1, h2, h3⟩ := read_fin x h
  refine ⟨m, e, h1, h2, h3, ?_⟩
  unfold Format.read at h1
  simp only [d_binade, d_inf, d_sign, d_least] at h1
  unfold rg infR at h
  by_cases k : x % 9223372036854775808 < 4503599627370496
  · rw [if_pos k] at h1; injection h1; omega
  · rw [if_neg k, if_pos h] at h1; injection h1; omega

/-! ### rounded down, cut -/
def flB (x : Nat) : Nat := double.write ((double.read x).integral .down)
def trB (x : Nat) : Nat := double.write ((double.read x).integral .zero)
theorem lt63 {t : Nat} (h : t ≤ infR) : t < 9223372036854775808 := by unfold infR at h; omega
theorem fl_inf (x : Nat) (hx : x < 18446744073709551616) (h : rg x = infR) : flB x = x := by
  unfold flB; rw [read_inf x h]
  show double.word (ng x) double.infRung = x
  rw [d_inf]
  have := word_self x hx
  rw [h] at this; exact this
theorem shl_exact (m : Nat) (i : Int) (h : 0 ≤ i) : m * 2 ^ i.toNat * uu = m * 2 ^ (i + 1074).toNat := by rw [uu_up i h, Nat.mul_assoc]
theorem write_whole (s : Bool) (K t : Nat) (ht : t ≤ infR) (h : rv t = K * uu) : double.write (.number s K 0) = double.word s t :=
  nearest_exact s K 0 (by omega) t ht (by rw [h, uu_of _ (show ((0 : Int) + 1074).toNat = kk from rfl)])
theorem fl_fin (x : Nat) (h : rg x < infR) : ∃ K t, flB x = double.word (ng x) t ∧ t < infR ∧ rv t = K * uu ∧
    (ng x = false → rv t ≤ rv (rg x) ∧ rv (rg x) < rv t + uu) ∧ (ng x = true → rv (rg x) ≤ rv t ∧ rv t < rv (rg x) + uu) := by
  obtain ⟨m, i, e1, h1, h2, h3⟩ := read_fin' x h
  have hu := uu_pos
  by_cases hi : 0 ≤ i
  · refine ⟨m * 2 ^ i.toNat, rg x, ?_, h, by rw [shl_exact m i hi, h2], fun _ => ⟨Nat.le_refl _, by omega⟩, fun _ => ⟨Nat.le_refl _, by omega⟩⟩
    unfold flB; rw [e1]
    show double.write (.number (ng x) (Toward.down.cut (ng x) (m <<< i.toNat) (-i).toNat) 0) = _
    rw [show (-i).toNat = 0 by omega, cut_zero, Nat.shiftLeft_eq]
    exact write_whole _ _ _ (Nat.le_of_lt h) (by rw [shl_exact m i hi, h2])
  · have hs := uu_split i h1 (by omega)
    have hd1 : 2 ≤ 2 ^ (-i).toNat := by
      have : (2 : Nat) ^ 1 ≤ 2 ^ (-i).toNat := Nat.pow_le_pow_right (by omega) (by omega)
      omega
    have hm := Nat.div_add_mod m (2 ^ (-i).toNat)
    have hml := Nat.mod_lt m (Nat.two_pow_pos (-i).toNat)
    have hmd : m / 2 ^ (-i).toNat ≤ m / 2 := Nat.div_le_div_left hd1 (by omega)
    have hb : (ng x && m % 2 ^ (-i).toNat != 0).toNat ≤ 1 := Bool.toNat_le _
    have hw : flB x = double.write (.number (ng x) (m / 2 ^ (-i).toNat + (ng x && m % 2 ^ (-i).toNat != 0).toNat) 0) := by
      unfold flB; rw [e1]
      show double.write (.number (ng x) (Toward.down.cut (ng x) (m <<< i.toNat) (-i).toNat) 0) = _
      rw [show i.toNat = 0 by omega, Nat.shiftLeft_zero, cut_down]
    generalize hK : m / 2 ^ (-i).toNat + (ng x && m % 2 ^ (-i).toNat != 0).toNat = K at *
    obtain ⟨t, ht, hrt⟩ := rep K (by omega)
    refine ⟨K, t, by rw [hw]; exact write_whole _ _ _ (Nat.le_of_lt ht) hrt, ht, hrt, fun hng => ?_, fun hng => ?_⟩
    · rw [hng] at hK; simp only [Bool.false_and, Bool.toNat_false, Nat.add_zero] at hK
      rw [hrt, ← h2, hs, ← hK]
      have hp := Nat.two_pow_pos (i + 1074).toNat
      rw [← Nat.mul_assoc]
      rw [← Nat.add_mul]
      refine ⟨Nat.mul_le_mul_right _ (by rw [Nat.mul_comm]; omega), Nat.mul_lt_mul_of_pos_right (by rw [Nat.mul_comm (m / _)]; omega) hp⟩
    · rw [hng] at hK; simp only [Bool.true_and] at hK
      rw [hrt, ← h2, hs, ← hK, ← Nat.mul_assoc, ← Nat.add_mul]
      have hp := Nat.two_pow_pos (i + 1074).toNat
      by_cases h0 : m % 2 ^ (-i).toNat = 0
      · rw [h0]; simp only [bne_self_eq_false, Bool.toNat_false, Nat.add_zero]
        refine ⟨Nat.mul_le_mul_right _ (by rw [Nat.mul_comm]; omega), Nat.mul_lt_mul_of_pos_right (by rw [Nat.mul_comm (m / _)]; omega) hp⟩
      · rw [show (m % 2 ^ (-i).toNat != 0) = true from by simpa using h0]
        simp only [Bool.toNat_true]
        refine ⟨Nat.mul_le_mul_right _ (by rw [Nat.mul_comm, Nat.mul_add]; omega), Nat.mul_lt_mul_of_pos_right (by rw [Nat.mul_comm (m / _ + 1), Nat.mul_add]; omega) hp⟩
theorem tr_fin (x : Nat) (h : rg x < infR) : ∃ t, trB x = double.word (ng x) t ∧ t < infR ∧ rv t = rv (rg x) / uu * uu := by
  obtain ⟨m, i, e1, h1, h2, h3⟩ := read_fin' x h
  have hu := uu_pos
  by_cases hi : 0 ≤ i
  · refine ⟨rg x, ?_, h, by rw [← h2, ← shl_exact m i hi, Nat.mul_div_cancel _ hu]⟩
    unfold trB; rw [e1]
    show double.write (.number (ng x) (Toward.zero.cut (ng x) (m <<< i.toNat) (-i).toNat) 0) = _
    rw [show (-i).toNat = 0 by omega, cut_zero, Nat.shiftLeft_eq]
    exact write_whole _ _ _ (Nat.le_of_lt h) (by rw [shl_exact m i hi, h2])
  · have hs := uu_split i h1 (by omega)
    have hmd : m / 2 ^ (-i).toNat ≤ m := Nat.div_le_self _ _
    obtain ⟨t, ht, hrt⟩ := rep (m / 2 ^ (-i).toNat) (by omega)
    refine ⟨t, ?_, ht, ?_⟩
    · unfold trB; rw [e1]
      show double.write (.number (ng x) (Toward.zero.cut (ng x) (m <<< i.toNat) (-i).toNat) 0) = _
      rw [show i.toNat = 0 by omega, Nat.shiftLeft_zero, cut_trunc]
      exact write_whole _ _ _ (Nat.le_of_lt ht) hrt
    · rw [hrt, ← h2, hs, Nat.mul_div_mul_right _ _ (Nat.two_pow_pos _)]
theorem toInt_fin (x : Nat) (h : rg x < infR) : (double.read x).toInt .zero = some (if ng x then -((rv (rg x) / uu : Nat) : Int) else (rv (rg x) / uu : Nat)) := by
  obtain ⟨m, i, e1, h1, h2, h3⟩ := read_fin' x h
  rw [e1]
  show some (signed (ng x) (Toward.zero.cut (ng x) (m <<< i.toNat) (-i).toNat) 0) = _
  unfold signed
  rw [Nat.shiftLeft_zero]
  have e : Toward.zero.cut (ng x) (m <<< i.toNat) (-i).toNat = rv (rg x) / uu := by
    by_cases hi : 0 ≤ i
    · rw [show (-i).toNat = 0 by omega, cut_zero, Nat.shiftLeft_eq, ← h2, ← shl_exact m i hi, Nat.mul_div_cancel _ uu_pos]
    · rw [show i.toNat = 0 by omega, Nat.shiftLeft_zero, cut_trunc, ← h2, uu_split i h1 (by omega), Nat.mul_div_mul_right _ _ (Nat.two_pow_pos _)]
  rw [e]
theorem toInt_tr (x : Nat) (h : rg x < infR) : (double.read (trB x)).toInt .zero = (double.read x).toInt .zero := by
  obtain ⟨t, e1, h1, h2⟩ := tr_fin x h
  rw [e1, toInt_fin x h, toInt_fin _ (by rw [rg_word _ _ (lt63 (Nat.le_of_lt h1))]; exact h1), rg_word _ _ (lt63 (Nat.le_of_lt h1)), ng_word _ _ (lt63 (Nat.le_of_lt h1)), h2, Nat.mul_div_cancel _ uu_pos]

/-! ### floors, told by values -/
theorem nan_word (s : Bool) (t : Nat) (h : t ≤ infR) : nanB (double.word s t) = false := by
  unfold nanB; rw [rg_word _ _ (lt63 h)]; simpa using h
theorem sv_word (s : Bool) (t : Nat) (h : t ≤ infR) : sv (double.word s t) = if s then -(rv t : Int) else rv t := by
  unfold sv; rw [rg_word _ _ (lt63 h), ng_word _ _ (lt63 h)]
theorem nan_fin {x : Nat} (h : nanB x = false) : rg x ≤ infR := by simpa [nanB] using h
theorem fl_num (x : Nat) (hx : x < 18446744073709551616) (h : nanB x = false) : nanB (flB x) = false := by
  have := nan_fin h
  by_cases e : rg x = infR
  · rw [fl_inf x hx e]; exact h
  · obtain ⟨K, t, e1, h1, _⟩ := fl_fin x (by omega)
    rw [e1]; exact nan_word _ _ (by omega)
theorem fl_le (x : Nat) (hx : x < 18446744073709551616) (h : nanB x = false) : sv (flB x) ≤ sv x := by
  have := nan_fin h
  by_cases e : rg x = infR
  · rw [fl_inf x hx e]; exact Int.le_refl _
  · obtain ⟨K, t, e1, h1, h2, h3, h4⟩ := fl_fin x (by omega)
    rw [e1, sv_word _ _ (by omega)]
    unfold sv
    cases hn : ng x
    · have := (h3 hn).1; simp; omega
    · have := (h4 hn).1; simp; omega
theorem mul_close {a b u : Nat} (h1 : a * u ≤ b * u) (h2 : b * u < a * u + u) (hu : 0 < u) : a = b := by
  have c1 := Nat.le_of_mul_le_mul_right h1 hu
  have c2 : b * u < (a + 1) * u := by rw [Nat.add_mul, Nat.one_mul]; exact h2
  have c3 := Nat.lt_of_mul_lt_mul_right c2
  omega
theorem fl_fl (x : Nat) (hx : x < 18446744073709551616) (h : nanB x = false) : flB (flB x) = flB x := by
  have := nan_fin h
  by_cases e : rg x = infR
  · rw [fl_inf x hx e, fl_inf x hx e]
  · obtain ⟨K, t, e1, h1, h2, _, _⟩ := fl_fin x (by omega)
    have l := lt63 (Nat.le_of_lt h1)
    obtain ⟨K', t', e1', h1', h2', h3', h4'⟩ := fl_fin (double.word (ng x) t) (by rw [rg_word _ _ l]; exact h1)
    rw [rg_word _ _ l, ng_word _ _ l] at *
    rw [e1, e1']
    congr 1
    apply rv_inj
    cases hn : ng x
    · obtain ⟨a, b⟩ := h3' hn
      rw [h2, h2'] at *
      rw [mul_close a b uu_pos]
    · obtain ⟨a, b⟩ := h4' hn
      rw [h2, h2'] at *
      rw [mul_close a b uu_pos]

/-! ### sums -/
theorem signed_tot (T : Int) (k : Nat) : (T.natAbs * k : Nat) = (T * k).natAbs := by rw [Int.natAbs_mul]; rfl
/-- A sum of two finite floats: its sign, and how it is rounded. -/
theorem add_fin (x y : Nat) (hx : rg x < infR) (hy : rg y < infR) : ∃ s q, double.add x y = some (double.word s q) ∧ q ≤ infR ∧ (sv x + sv y < 0 → s = true) ∧ (0 < sv x + sv y → s = false) ∧
    (∀ r, r ≤ infR → (rv r : Int) ≤ (sv x + sv y).natAbs → r ≤ q) ∧ (∀ r, ((sv x + sv y).natAbs : Int) ≤ rv r → q ≤ r) := by
  obtain ⟨m, i, e1, hi, hm⟩ := read_fin x hx
  obtain ⟨n, j, e2, hj, hn⟩ := read_fin y hy
  have hadd : double.add x y = some (double.nearest (if signed (ng x) m (i - min i j).toNat + signed (ng y) n (j - min i j).toNat = 0 then ng x && ng y else signed (ng x) m (i - min i j).toNat + signed (ng y) n (j - min i j).toNat < 0)
      (signed (ng x) m (i - min i j).toNat + signed (ng y) n (j - min i j).toNat).natAbs (min i j)) := by
    unfold Format.add; rw [e1, e2]; rfl
  have ex := signed_mul (ng x) m i (min i j) (by omega) (by omega)
  have ey := signed_mul (ng y) n j (min i j) (by omega) (by omega)
  rw [hm] at ex; rw [hn] at ey
  have hs : (signed (ng x) m (i - min i j).toNat + signed (ng y) n (j - min i j).toNat) * (2 ^ (min i j + 1074).toNat : Nat) = sv x + sv y := by
    rw [Int.add_mul, ex, ey]; rfl
  generalize signed (ng x) m (i - min i j).toNat + signed (ng y) n (j - min i j).toNat = T at *
  obtain ⟨q, hq, hw, k1, k2⟩ := nearest_rung (if T = 0 then ng x && ng y else T < 0) T.natAbs (min i j) (by omega)
  have hp : (0 : Int) < (2 ^ (min i j + 1074).toNat : Nat) := by have := Nat.two_pow_pos (min i j + 1074).toNat; omega
  have hp' := Nat.two_pow_pos (min i j + 1074).toNat
  rw [signed_tot T _, hs] at k1 k2
  rw [hadd, hw]
  refine ⟨_, q, rfl, hq, fun h => ?_, fun h => ?_, fun r h1 h2 => k1 r h1 (by omega), fun r h1 => k2 r (by omega)⟩
  · have hT : T < 0 := by
      by_cases c : T < 0
      · exact c
      · have := Int.mul_nonneg (show 0 ≤ T by omega) (Int.le_of_lt hp); omega
    rw [if_neg (by omega)]; simpa using hT
  · have hT : 0 < T := by
      by_cases c : 0 < T
      · exact c
      · have := Int.mul_nonneg (show 0 ≤ -T by omega) (Int.le_of_lt hp)
        rw [Int.neg_mul] at this; omega
    rw [if_neg (by omega)]; simp; omega
theorem one_sv : sv 4607182418800017408 = uu := by
  have e := rv_two 1022 0 rfl
  have : rv (rg 4607182418800017408) = uu := by
    rw [show rg 4607182418800017408 = (1022 + 1) * 4503599627370496 by decide, e, Nat.pow_zero, Nat.one_mul]
  unfold sv
  rw [show ng 4607182418800017408 = false by decide, this]; rfl
/-- Rounded down, and one more: not below what it was. -/
theorem fl_up (x : Nat) (hx : x < 18446744073709551616) (h : nanB x = false) : ∃ r, double.add (flB x) 4607182418800017408 = some r ∧ nanB r = false ∧ r < 18446744073709551616 ∧ sv x ≤ sv r := by
  have := nan_fin h
  by_cases e : rg x = infR
  · rw [fl_inf x hx e]
    refine ⟨x, ?_, h, hx, Int.le_refl _⟩
    unfold Format.add
    rw [read_inf x e]
    obtain ⟨m, i, e1, _⟩ := read_fin 4607182418800017408 (by decide)
    rw [e1]
    show some (double.word (ng x) double.infRung) = some x
    have := word_self x hx
    rw [d_inf]; rw [e] at this; exact congrArg some this
  · obtain ⟨K, t, e1, h1, h2, h3, h4⟩ := fl_fin x (by omega)
    rw [e1]
    obtain ⟨s, q, e2, hq, n1, n2, k1, k2⟩ := add_fin (double.word (ng x) t) 4607182418800017408 (by rw [rg_word _ _ (lt63 (by omega))]; exact h1) (by decide)
    rw [one_sv, sv_word _ _ (show t ≤ infR by omega)] at n1 n2 k1 k2
    have hwl : double.word s q < 18446744073709551616 := by rw [word_eq]; have := lt63 hq; cases s <;> simp <;> omega
    refine ⟨_, e2, nan_word _ _ hq, hwl, ?_⟩
    rw [sv_word _ _ hq]
    have hu := uu_pos
    have hxr : sv x = if ng x then -(rv (rg x) : Int) else rv (rg x) := rfl
    have hT : sv x ≤ (if ng x then -(rv t : Int) else rv t) + uu := by
      rw [hxr]
      cases hn : ng x
      · have := h3 hn; simp; omega
      · have := h4 hn; simp; omega
    generalize hTT : (if ng x then -(rv t : Int) else rv t) + uu = T at *
    rcases Int.lt_trichotomy T 0 with c | c | c
    · rw [n1 c]
      cases hn : ng x
      · rw [hn] at hxr; simp at hxr; omega
      · rw [hn] at hxr; simp at hxr
        have := rv_le (k2 (rg x) (by omega))
        simp; omega
    · have q0 : q = 0 := by
        have := k2 0 (by rw [c]; decide)
        omega
      rw [q0]
      have z : rv 0 = 0 := rfl
      rw [z]
      cases s <;> simp <;> omega
    · rw [n2 c]
      cases hn : ng x
      · rw [hn] at hxr; simp at hxr
        have := rv_le (k1 (rg x) (by omega) (by omega))
        simp; omega
      · rw [hn] at hxr; simp at hxr; simp; omega
end Go.Proofs.YtobijdfnafnodaaGreatDoor.Fl

/- The body-less functions of package math, as the model has them. -/
namespace Go.Proofs.YtobijdfnafnodaaGreatDoor.Fl
set_option maxRecDepth 100000
open Go.ChangeShapes Go.WideShapes Go.ChangeAt Go.RowKit
set_option linter.unusedVariables false

/-! ### the body-less functions of package math -/
theorem run_frombits (n : Int) (w : World) : (callFunc 102 #[.int .u64 n]).run Tryz.prog w = .ok (.value (.float .f64 n.toNat)) w := by
  rw [run_callFunc_extern Tryz.func102 (by kernel_rfl) (by kernel_rfl) (by kernel_rfl) (e := Extern.MathFloatBits.float64frombits) (by kernel_rfl)]
  rfl
theorem run_tobits (b : Nat) (w : World) : (callFunc 154 #[.float .f64 b]).run Tryz.prog w = .ok (.value (.int .u64 b)) w := by
  rw [run_callFunc_extern Tryz.func154 (by kernel_rfl) (by kernel_rfl) (by kernel_rfl) (e := Extern.MathFloatBits.float64bits) (by kernel_rfl)]
  rfl
/-- What the tape gives where a NaN's bits are open. -/
def nanOf (w : World) (q : Question) : Nat := q.cut (w.tape w.drawn q)
theorem nan_cut (t : Nat) : nanB ((t % 2) * 2 ^ 63 + 0x7ff0000000000000 + 1 + (t / 2) % (2 ^ 52 - 1)) = true ∧ (t % 2) * 2 ^ 63 + 0x7ff0000000000000 + 1 + (t / 2) % (2 ^ 52 - 1) < 18446744073709551616 := by
  rw [show (2 : Nat) ^ 63 = 9223372036854775808 by decide, show (2 : Nat) ^ 52 - 1 = 4503599627370495 by decide]
  have hu := Nat.mod_lt (t / 2) (show 0 < 4503599627370495 by omega)
  generalize t / 2 % 4503599627370495 = u at *
  rcases Nat.mod_two_eq_zero_or_one t with h | h
  all_goals
    rw [h]
    refine ⟨?_, by omega⟩
    unfold nanB rg infR; rw [decide_eq_true_eq]; omega
theorem nanOf_bits (w : World) (x y : Nat) : nanB (nanOf w (.nanBits .f64 x y)) = true ∧ nanOf w (.nanBits .f64 x y) < 18446744073709551616 := nan_cut _
theorem nanOf_minmax (w : World) (b : Bool) (x y : Nat) : nanB (nanOf w (.nanMinMax .f64 b x y)) = true ∧ nanOf w (.nanMinMax .f64 b x y) < 18446744073709551616 := nan_cut _
theorem run_sqrt_ok (x r : Nat) (h : Ieee.double.sqrt x = some r) (w : World) : (callFunc 174 #[.float .f64 x]).run Tryz.prog w = .ok (.value (.float .f64 r)) w := by
  rw [run_callFunc_extern Tryz.func174 (by kernel_rfl) (by kernel_rfl) (by kernel_rfl) (e := Extern.MathSqrt.sqrt) (by kernel_rfl)]
  have h' : FloatKind.f64.format.sqrt x = some r := h
  change (Sem.run Tryz.prog (match FloatKind.f64.format.sqrt x with | some r => pure (Value.float .f64 r) | none => do pure (Value.float .f64 (← choose (.nanBits .f64 x x)))) w).andThen _ = _
  rw [h']
  rfl
theorem run_sqrt_nan (x : Nat) (h : Ieee.double.sqrt x = none) (w : World) : (callFunc 174 #[.float .f64 x]).run Tryz.prog w = .ok (.value (.float .f64 (nanOf w (.nanBits .f64 x x)))) w.drew := by
  rw [run_callFunc_extern Tryz.func174 (by kernel_rfl) (by kernel_rfl) (by kernel_rfl) (e := Extern.MathSqrt.sqrt) (by kernel_rfl)]
  have h' : FloatKind.f64.format.sqrt x = none := h
  change (Sem.run Tryz.prog (match FloatKind.f64.format.sqrt x with | some r => pure (Value.float .f64 r) | none => do pure (Value.float .f64 (← choose (.nanBits .f64 x x)))) w).andThen _ = _
  rw [h']
  simp [Result.andThen, Question.forced, nanOf]
theorem read_num {x : Nat} (h : nanB x = false) : (Ieee.double.read x).isNaN = false := by
  have := nan_fin h
  by_cases e : rg x = infR
  · rw [read_inf x e]; rfl
  · obtain ⟨m, i, e1, _⟩ := read_fin x (by omega)
    rw [e1]; rfl
theorem run_floor_ok (x : Nat) (h : nanB x = false) (w : World) : (callFunc 175 #[.float .f64 x]).run Tryz.prog w = .ok (.value (.float .f64 (flB x))) w := by
  rw [run_callFunc_extern Tryz.func175 (by kernel_rfl) (by kernel_rfl) (by kernel_rfl) (e := Extern.MathFloor.toIntegral "math.archFloor" .down) (by kernel_rfl)]
  have h' := read_num h
  unfold flB
  have e : FloatKind.f64.decode x = Ieee.double.read x := rfl
  change (Sem.run Tryz.prog (match FloatKind.f64.decode x with
    | .nan s t => if FloatKind.f64.format.quiet t = t then pure (Value.float .f64 x) else do
      let kept ← choose (.extern "math.Floor,Ceil,Trunc,RoundToEven.signallingNaN kept" 2)
      pure (Value.float .f64 (if kept == 1 then x else FloatKind.f64.encode (.nan s (FloatKind.f64.format.quiet t))))
    | d => pure (Value.float .f64 (FloatKind.f64.encode (d.integral .down)))) w).andThen _ = _
  rw [e]
  cases hd : Ieee.double.read x <;> first | (rw [hd] at h'; cases h'; done) | rfl
theorem run_trunc_ok (x : Nat) (h : nanB x = false) (w : World) : (callFunc 137 #[.float .f64 x]).run Tryz.prog w = .ok (.value (.float .f64 (trB x))) w := by
  rw [run_callFunc_extern Tryz.func137 (by kernel_rfl) (by kernel_rfl) (by kernel_rfl) (e := Extern.MathFloor.toIntegral "math.archTrunc" .zero) (by kernel_rfl)]
  have h' := read_num h
  unfold trB
  have e : FloatKind.f64.decode x = Ieee.double.read x := rfl
  change (Sem.run Tryz.prog (match FloatKind.f64.decode x with
    | .nan s t => if FloatKind.f64.format.quiet t = t then pure (Value.float .f64 x) else do
      let kept ← choose (.extern "math.Floor,Ceil,Trunc,RoundToEven.signallingNaN kept" 2)
      pure (Value.float .f64 (if kept == 1 then x else FloatKind.f64.encode (.nan s (FloatKind.f64.format.quiet t))))
    | d => pure (Value.float .f64 (FloatKind.f64.encode (d.integral .zero)))) w).andThen _ = _
  rw [e]
  cases hd : Ieee.double.read x <;> first | (rw [hd] at h'; cases h'; done) | rfl
theorem write_nan (s : Bool) (t : Nat) (h0 : 0 < t) (h1 : t < 4503599627370496) : nanB (Ieee.double.write (.nan s t)) = true ∧ Ieee.double.write (.nan s t) < 18446744073709551616 := by
  have e : Ieee.double.write (.nan s t) = Ieee.double.word s (infR + t) := by
    show Ieee.double.word s (Ieee.double.infRung + t % Ieee.double.binade) = _
    rw [d_inf, d_binade, Nat.mod_eq_of_lt h1]; rfl
  have l : infR + t < 9223372036854775808 := by unfold infR; omega
  rw [e]
  refine ⟨?_, ?_⟩
  · unfold nanB; rw [rg_word _ _ l, decide_eq_true_eq]; omega
  · rw [word_eq]; cases s <;> simp <;> omega
theorem quiet_bd (t : Nat) (h1 : t < 4503599627370496) : 0 < Ieee.double.quiet t ∧ Ieee.double.quiet t < 4503599627370496 := by
  unfold Ieee.Format.quiet
  rw [show Ieee.double.fractionBits - 1 = 51 from rfl]
  refine ⟨?_, ?_⟩
  · have := Nat.right_le_or (n := t) (m := 2 ^ 51); omega
  · exact Nat.or_lt_two_pow (n := 52) h1 (by decide)
theorem run_floor_nan (x : Nat) (hx : x < 18446744073709551616) (h : nanB x = true) (w : World) : ∃ r w', (callFunc 175 #[.float .f64 x]).run Tryz.prog w = .ok (.value (.float .f64 r)) w' ∧ nanB r = true ∧ r < 18446744073709551616 ∧ ∃ n, w' = w.drewN n := by
  have h1 : infR < rg x := by simpa [nanB] using h
  have h2 : 0 < rg x - infR ∧ rg x - infR < 4503599627370496 := by unfold rg infR at *; omega
  rw [run_callFunc_extern Tryz.func175 (by kernel_rfl) (by kernel_rfl) (by kernel_rfl) (e := Extern.MathFloor.toIntegral "math.archFloor" .down) (by kernel_rfl)]
  have e : FloatKind.f64.decode x = .nan (ng x) (rg x - infR) := read_nan x h1
  have hw : ∀ w, Sem.run Tryz.prog (Extern.MathFloor.toIntegral "math.archFloor" .down #[.float .f64 x]) w = Sem.run Tryz.prog (if FloatKind.f64.format.quiet (rg x - infR) = rg x - infR then pure (Value.float .f64 x) else do
      let kept ← choose (.extern "math.Floor,Ceil,Trunc,RoundToEven.signallingNaN kept" 2)
      pure (Value.float .f64 (if kept == 1 then x else FloatKind.f64.encode (.nan (ng x) (FloatKind.f64.format.quiet (rg x - infR)))))) w := by
    intro w
    change Sem.run Tryz.prog (match FloatKind.f64.decode x with
      | .nan s t => if FloatKind.f64.format.quiet t = t then pure (Value.float .f64 x) else do
        let kept ← choose (.extern "math.Floor,Ceil,Trunc,RoundToEven.signallingNaN kept" 2)
        pure (Value.float .f64 (if kept == 1 then x else FloatKind.f64.encode (.nan s (FloatKind.f64.format.quiet t))))
      | d => pure (Value.float .f64 (FloatKind.f64.encode (d.integral .down)))) w = _
    rw [e]
  rw [hw]
  obtain ⟨q1, q2⟩ := quiet_bd _ h2.2
  obtain ⟨w1, w2⟩ := write_nan (ng x) _ q1 q2
  by_cases q : FloatKind.f64.format.quiet (rg x - infR) = rg x - infR
  · rw [if_pos q]
    exact ⟨x, w, rfl, h, hx, 0, rfl⟩
  · rw [if_neg q]
    refine ⟨_, w.drew, by simp [Question.forced, Result.andThen]; rfl, ?_, ?_, 1, rfl⟩
    · split
      · exact h
      · exact w1
    · split
      · exact hx
      · exact w2

end Go.Proofs.YtobijdfnafnodaaGreatDoor.Fl

/- Contracts of package flo's small functions and of the document's answers for them. -/
namespace Go.Proofs.YtobijdfnafnodaaGreatDoor.Fl
set_option maxRecDepth 100000
open Go.ChangeShapes Go.WideShapes Go.ChangeAt Go.RowKit
set_option linter.unusedVariables false

/-! ### floats' operations where the result is a NaN -/
theorem run_arith_nan {P : Program} (op : BinOp) (t : TypeId) (x y : Nat) (ho : op = .add ∨ op = .sub ∨ op = .mul ∨ op = .quo) (h : floatBits op .f64 x y = none) (w : World) :
    (binOp op t (.float .f64 x) (.float .f64 y)).run P w = .ok (.float .f64 (nanOf w (.nanBits .f64 x y))) w.drew := by
  unfold floatBits at h
  rcases ho with rfl | rfl | rfl | rfl <;> simp only at h <;> simp [binOp, Op.floatArith, h, Question.forced, nanOf]
theorem run_min_nan {P : Program} (t : TypeId) (x y : Nat) (h : Ieee.double.order x y = none) (w : World) (T : Array TypeId) :
    (Builtin.min_ T t #[.float .f64 x, .float .f64 y]).run P w = .ok (.float .f64 (nanOf w (.nanMinMax .f64 false x y))) w.drew := by
  have h' : FloatKind.f64.format.order x y = none := h
  simp [Builtin.min_, Builtin.min2, h', Question.forced, nanOf]
theorem run_max_nan {P : Program} (t : TypeId) (x y : Nat) (h : Ieee.double.order x y = none) (w : World) (T : Array TypeId) :
    (Builtin.max_ T t #[.float .f64 x, .float .f64 y]).run P w = .ok (.float .f64 (nanOf w (.nanMinMax .f64 true x y))) w.drew := by
  have h' : FloatKind.f64.format.order x y = none := h
  simp [Builtin.max_, Builtin.max2, h', Question.forced, nanOf]
def mnB (x y : Nat) : Option Nat := match Ieee.double.order x y with
  | none => none
  | some .lt => some x
  | some .gt => some y
  | some .eq => some (if ng x then x else y)
def mxB (x y : Nat) : Option Nat := match Ieee.double.order x y with
  | none => none
  | some .lt => some y
  | some .gt => some x
  | some .eq => some (if ng x then y else x)
theorem neg_read {x : Nat} (h : nanB x = false) : (Ieee.double.read x).neg = ng x := by
  have := nan_fin h
  by_cases e : rg x = infR
  · rw [read_inf x e]; rfl
  · obtain ⟨m, i, e1, _⟩ := read_fin x (by omega)
    rw [e1]; rfl
theorem run_min_ok {P : Program} (t : TypeId) (x y r : Nat) (hx : nanB x = false) (h : mnB x y = some r) (w : World) (T : Array TypeId) :
    (Builtin.min_ T t #[.float .f64 x, .float .f64 y]).run P w = .ok (.float .f64 r) w := by
  unfold mnB at h
  have hn : (FloatKind.f64.decode x).neg = ng x := neg_read hx
  have e : FloatKind.f64.format.order x y = Ieee.double.order x y := rfl
  cases ho : Ieee.double.order x y with
  | none => rw [ho] at h; cases h
  | some o => rw [ho] at h e; cases o <;> simp only [Option.some.injEq] at h <;> subst h <;> simp [Builtin.min_, Builtin.min2, e, hn]
theorem run_max_ok {P : Program} (t : TypeId) (x y r : Nat) (hx : nanB x = false) (h : mxB x y = some r) (w : World) (T : Array TypeId) :
    (Builtin.max_ T t #[.float .f64 x, .float .f64 y]).run P w = .ok (.float .f64 r) w := by
  unfold mxB at h
  have hn : (FloatKind.f64.decode x).neg = ng x := neg_read hx
  have e : FloatKind.f64.format.order x y = Ieee.double.order x y := rfl
  cases ho : Ieee.double.order x y with
  | none => rw [ho] at h; cases h
  | some o => rw [ho] at h e; cases o <;> simp only [Option.some.injEq] at h <;> subst h <;> simp [Builtin.max_, Builtin.max2, e, hn]

/-! ### flo.float, flo.told, math.IsNaN -/
def cb (a : Int) : Nat := (IntKind.u64.wrap a).toNat
def tld (x : Nat) : Int := if nanB x then 9221120237041090560 else wrap64 x
theorem float_any (a : Int) (w : World) :
    Calls Tryz.prog 131 #[.int .i64 a] w fun e w' => e = .returned (.float .f64 (cb a)) ∧ w = w' := by
  have hd := run_frombits
  go_enter Tryz.func131, Tryz.ntmps131
  go_wp2
  go_ret
  exact ⟨rfl, rfl⟩
theorem isnan_any (x : Nat) (w : World) :
    Calls Tryz.prog 153 #[.float .f64 x] w fun e w' => e = .returned (.bool (nanB x)) ∧ w = w' := by
  have h : (Ieee.double.order x x != some .eq) = nanB x := by rw [bne, order_self]; simp
  have H := Lib.hid h
  clear h
  go_enter Tryz.func153, Tryz.ntmps153
  go_wp2
  go_ret
  exact ⟨congrArg (fun b => Ending.returned (.bool b)) H.out, rfl⟩
theorem retI {k : IntKind} {a b : Int} (h : a = b) : Ending.returned (.int k a) = .returned (.int k b) := by rw [h]
def nanI : Int := 9221120237041090560
theorem tld_nan {x : Nat} (h : nanB x = true) : 9221120237041090560 = tld x := by unfold tld; rw [h, if_pos rfl]
theorem tld_num {x : Nat} (h : nanB x = false) : wrap64 x = tld x := by unfold tld; rw [h, if_neg Bool.false_ne_true]
theorem told_num (x : Nat) (w : World) (h : nanB x = false) :
    Calls Tryz.prog 132 #[.float .f64 x] w fun e w' => e = .returned (.int .i64 (tld x)) ∧ w = w' := by
  have hd := run_tobits
  have H := Lib.hid (tld_num h)
  go_enter Tryz.func132, Tryz.ntmps132
  go_wp2_with (go_at_call 153; refine (isnan_any _ _).mono ?_; rintro e w' ⟨rfl, rfl⟩)
  go_ret
  exact ⟨retI H.out, rfl⟩
theorem told_nan (x : Nat) (w : World) (h : nanB x = true) :
    Calls Tryz.prog 132 #[.float .f64 x] w fun e w' => e = .returned (.int .i64 (tld x)) ∧ w = w' := by
  have H := Lib.hid (tld_nan h)
  go_enter Tryz.func132, Tryz.ntmps132
  go_wp2_with (go_at_call 153; refine (isnan_any _ _).mono ?_; rintro e w' ⟨rfl, rfl⟩)
  go_ret
  exact ⟨retI H.out, rfl⟩
theorem told_any (x : Nat) (w : World) :
    Calls Tryz.prog 132 #[.float .f64 x] w fun e w' => e = .returned (.int .i64 (tld x)) ∧ w = w' := by
  cases h : nanB x
  · exact told_num x w h
  · exact told_nan x w h
end Go.Proofs.YtobijdfnafnodaaGreatDoor.Fl

/- Contracts of the closures in flo.ofTwo and flo.ofOne. -/
namespace Go.Proofs.YtobijdfnafnodaaGreatDoor.Fl
set_option maxRecDepth 100000
open Go.ChangeShapes Go.WideShapes Go.ChangeAt Go.RowKit
set_option linter.unusedVariables false

def tlo : Option Nat → Int
  | some r => tld r
  | none => 9221120237041090560
/-- A float comes back, told as o is; but draws nothing has turned. -/
def Flt (o : Option Nat) (w : World) (e : Ending) (w' : World) : Prop := ∃ r, e = .returned (.float .f64 r) ∧ tld r = tlo o ∧ ∃ n, w' = w.drewN n
theorem flt_some {r : Nat} {w : World} (n : Nat) {o : Option Nat} (h : o = some r) : Flt o w (.returned (.float .f64 r)) (w.drewN n) := ⟨r, rfl, by rw [h]; rfl, n, rfl⟩
theorem flt_nan {r : Nat} {w : World} (n : Nat) {o : Option Nat} (h : o = none) (hr : nanB r = true) : Flt o w (.returned (.float .f64 r)) (w.drewN n) := ⟨r, rfl, by rw [h]; exact (tld_nan hr).symm, n, rfl⟩

theorem cadd_any (x y : Nat) (w : World) :
    Calls Tryz.prog 163 #[.float .f64 x, .float .f64 y] w (Flt (Ieee.double.add x y) w) := by
  cases h : Ieee.double.add x y with
  | some r =>
    have hd := fun (w : World) => run_float_arith (P := Tryz.prog) w .add 91 .f64 x y r h
    clear h
    go_enter Tryz.func163, Tryz.ntmps163
    go_wp2
    go_ret
    exact flt_some 0 rfl
  | none =>
    have hd := fun (w : World) => run_arith_nan (P := Tryz.prog) .add 91 x y (.inl rfl) h w
    clear h
    go_enter Tryz.func163, Tryz.ntmps163
    go_wp2
    go_ret
    exact flt_nan 1 rfl (nanOf_bits _ _ _).1
theorem csub_any (x y : Nat) (w : World) :
    Calls Tryz.prog 164 #[.float .f64 x, .float .f64 y] w (Flt (Ieee.double.sub x y) w) := by
  cases h : Ieee.double.sub x y with
  | some r =>
    have hd := fun (w : World) => run_float_arith (P := Tryz.prog) w .sub 91 .f64 x y r h
    clear h
    go_enter Tryz.func164, Tryz.ntmps164
    go_wp2
    go_ret
    exact flt_some 0 rfl
  | none =>
    have hd := fun (w : World) => run_arith_nan (P := Tryz.prog) .sub 91 x y (.inr (.inl rfl)) h w
    clear h
    go_enter Tryz.func164, Tryz.ntmps164
    go_wp2
    go_ret
    exact flt_nan 1 rfl (nanOf_bits _ _ _).1
theorem cmul_any (x y : Nat) (w : World) :
    Calls Tryz.prog 165 #[.float .f64 x, .float .f64 y] w (Flt (Ieee.double.mul x y) w) := by
  cases h : Ieee.double.mul x y with
  | some r =>
    have hd := fun (w : World) => run_float_arith (P := Tryz.prog) w .mul 91 .f64 x y r h
    clear h
    go_enter Tryz.func165, Tryz.ntmps165
    go_wp2
    go_ret
    exact flt_some 0 rfl
  | none =>
    have hd := fun (w : World) => run_arith_nan (P := Tryz.prog) .mul 91 x y (.inr (.inr (.inl rfl))) h w
    clear h
    go_enter Tryz.func165, Tryz.ntmps165
    go_wp2
    go_ret
    exact flt_nan 1 rfl (nanOf_bits _ _ _).1
theorem cquo_any (x y : Nat) (w : World) :
    Calls Tryz.prog 166 #[.float .f64 x, .float .f64 y] w (Flt (Ieee.double.div x y) w) := by
  cases h : Ieee.double.div x y with
  | some r =>
    have hd := fun (w : World) => run_float_arith (P := Tryz.prog) w .quo 91 .f64 x y r h
    clear h
    go_enter Tryz.func166, Tryz.ntmps166
    go_wp2
    go_ret
    exact flt_some 0 rfl
  | none =>
    have hd := fun (w : World) => run_arith_nan (P := Tryz.prog) .quo 91 x y (.inr (.inr (.inr rfl))) h w
    clear h
    go_enter Tryz.func166, Tryz.ntmps166
    go_wp2
    go_ret
    exact flt_nan 1 rfl (nanOf_bits _ _ _).1
theorem mn_num {x y r : Nat} (h : mnB x y = some r) : nanB x = false := by
  cases hx : nanB x
  · rfl
  · unfold mnB at h; rw [order_nan x y (.inl hx)] at h; cases h
theorem mx_num {x y r : Nat} (h : mxB x y = some r) : nanB x = false := by
  cases hx : nanB x
  · rfl
  · unfold mxB at h; rw [order_nan x y (.inl hx)] at h; cases h
theorem mn_none {x y : Nat} (h : mnB x y = none) : Ieee.double.order x y = none := by
  unfold mnB at h
  cases ho : Ieee.double.order x y with
  | none => rfl
  | some o => rw [ho] at h; cases o <;> cases h
theorem mx_none {x y : Nat} (h : mxB x y = none) : Ieee.double.order x y = none := by
  unfold mxB at h
  cases ho : Ieee.double.order x y with
  | none => rfl
  | some o => rw [ho] at h; cases o <;> cases h
theorem cmin_any (x y : Nat) (w : World) :
    Calls Tryz.prog 167 #[.float .f64 x, .float .f64 y] w (Flt (mnB x y) w) := by
  cases h : mnB x y with
  | some r =>
    have hd := fun (T : Array TypeId) (t : TypeId) (w : World) => run_min_ok (P := Tryz.prog) t x y r (mn_num h) h w T
    clear h
    go_enter Tryz.func167, Tryz.ntmps167
    go_wp2
    go_ret
    exact flt_some 0 rfl
  | none =>
    have hd := fun (T : Array TypeId) (t : TypeId) (w : World) => run_min_nan (P := Tryz.prog) t x y (mn_none h) w T
    clear h
    go_enter Tryz.func167, Tryz.ntmps167
    go_wp2
    go_ret
    exact flt_nan 1 rfl (nanOf_minmax _ _ _ _).1
theorem cmax_any (x y : Nat) (w : World) :
    Calls Tryz.prog 168 #[.float .f64 x, .float .f64 y] w (Flt (mxB x y) w) := by
  cases h : mxB x y with
  | some r =>
    have hd := fun (T : Array TypeId) (t : TypeId) (w : World) => run_max_ok (P := Tryz.prog) t x y r (mx_num h) h w T
    clear h
    go_enter Tryz.func168, Tryz.ntmps168
    go_wp2
    go_ret
    exact flt_some 0 rfl
  | none =>
    have hd := fun (T : Array TypeId) (t : TypeId) (w : World) => run_max_nan (P := Tryz.prog) t x y (mx_none h) w T
    clear h
    go_enter Tryz.func168, Tryz.ntmps168
    go_wp2
    go_ret
    exact flt_nan 1 rfl (nanOf_minmax _ _ _ _).1
end Go.Proofs.YtobijdfnafnodaaGreatDoor.Fl

/- The maps of functions that flo.ofTwo and flo.ofOne make: what is in them, and what is found. -/
namespace Go.Proofs.YtobijdfnafnodaaGreatDoor.Fl
set_option maxRecDepth 100000
open Go.ChangeShapes Go.WideShapes Go.ChangeAt Go.RowKit
set_option linter.unusedVariables false

theorem set_last (w : World) (o p : Obj) : { (w.alloc o) with heap := (w.alloc o).heap.setIfInBounds w.heap.size p } = w.alloc p := by
  have e : (w.alloc o).heap = w.heap.push o := rfl
  have e2 : (w.heap.push o).setIfInBounds w.heap.size p = w.heap.push p := by
    apply Array.ext_getElem?
    intro i
    rw [Array.getElem?_setIfInBounds, Array.getElem?_push, Array.getElem?_push, Array.size_push]
    by_cases h : w.heap.size = i
    · subst h; simp
    · rw [if_neg h, if_neg (Ne.symm h), if_neg (Ne.symm h)]
  rw [e, e2]; rfl
theorem run_insert {P : Program} {T K E : TypeId} (hT : P.underlying T = some (.map K E)) (hK : P.underlying K = some (.int .u8)) (es : Array MapEntry) (clock : Nat) (k : Int) (v : Value)
    (hk : Instr.findNow (.int .u8) (.int .u8 k) es.toList 0 = some none) (w : World) :
    (Instr.mapUpdate T (.map (some w.heap.size)) (.int .u8 k) v).run P (w.alloc (.map es clock)) = .ok () (w.alloc (.map (es.push { key := .int .u8 k, val := v, born := clock }) (clock + 1))) := by
  have hb := (MapKept.heap_alloc w (.map es clock)).1
  have hik : MapKept.IsKey (.int .u8) (.int .u8 k) := rfl
  have h2 := set_last w (.map es clock) (.map (es.push { key := .int .u8 k, val := v, born := clock }) (clock + 1))
  simp [Instr.mapUpdate, run_underlying hT, MapKept.run_getObj_map hb, MapKept.run_checkKey hK hik, MapKept.run_findKey hK hk, MapKept.run_setObj_map _ hb, Result.andThen]
  exact h2
theorem run_find {P : Program} {T K E : TypeId} (hT : P.underlying T = some (.map K E)) (hK : P.underlying K = some (.int .u8)) (es : Array MapEntry) (clock : Nat) (k : Int) (v : Value) (i : Nat)
    (hk : Instr.findNow (.int .u8) (.int .u8 k) es.toList 0 = some (some (i, v))) (b : Nat) (w : World) (hb : w.heap[b]? = some (.map es clock)) :
    (Instr.lookup T (.map (some b)) (.int .u8 k) true).run P w = .ok (.tuple #[v, .bool true]) w := by
  have hik : MapKept.IsKey (.int .u8) (.int .u8 k) := rfl
  simp [Instr.lookup, run_underlying hT, MapKept.run_getObj_map hb, MapKept.run_checkKey hK hik, MapKept.run_findKey hK hk, Result.andThen]
theorem run_find_no {P : Program} {T K E : TypeId} (hT : P.underlying T = some (.map K E)) (hK : P.underlying K = some (.int .u8)) (es : Array MapEntry) (clock : Nat) (k : Int) (z : Value) (hz : ∀ w, (zeroValue E).run P w = .ok z w)
    (hk : Instr.findNow (.int .u8) (.int .u8 k) es.toList 0 = some none) (b : Nat) (w : World) (hb : w.heap[b]? = some (.map es clock)) :
    (Instr.lookup T (.map (some b)) (.int .u8 k) true).run P w = .ok (.tuple #[z, .bool false]) w := by
  have hik : MapKept.IsKey (.int .u8) (.int .u8 k) := rfl
  simp [Instr.lookup, run_underlying hT, MapKept.run_getObj_map hb, MapKept.run_checkKey hK hik, MapKept.run_findKey hK hk, hz, Result.andThen]

def tw0 : MapEntry := { key := .int .u8 43, val := .func (Fn.func 163) #[] #[], born := 0 }
def tw1 : MapEntry := { key := .int .u8 45, val := .func (Fn.func 164) #[] #[], born := 1 }
def tw2 : MapEntry := { key := .int .u8 42, val := .func (Fn.func 165) #[] #[], born := 2 }
def tw3 : MapEntry := { key := .int .u8 47, val := .func (Fn.func 166) #[] #[], born := 3 }
def tw4 : MapEntry := { key := .int .u8 109, val := .func (Fn.func 167) #[] #[], born := 4 }
def tw5 : MapEntry := { key := .int .u8 77, val := .func (Fn.func 168) #[] #[], born := 5 }
def twoES : Array MapEntry := #[tw0, tw1, tw2, tw3, tw4, tw5]
theorem oftwo_any (w : World) :
    Calls Tryz.prog 151 #[] w fun e w' => e = .returned (.map (some w.heap.size)) ∧ w.alloc (.map twoES 6) = w' := by
  have hmm := @run_makeMap Tryz.prog
  have h0 : ∀ w : World, (Instr.mapUpdate 114 (.map (some w.heap.size)) (.int .u8 43) (.func (Fn.func 163) #[] #[])).run Tryz.prog (w.alloc (.map #[] 0)) = .ok () (w.alloc (.map #[tw0] 1)) := fun w => run_insert Tryz.underlying114 Tryz.underlying5 #[] 0 43 _ rfl w
  have h1 : ∀ w : World, (Instr.mapUpdate 114 (.map (some w.heap.size)) (.int .u8 45) (.func (Fn.func 164) #[] #[])).run Tryz.prog (w.alloc (.map #[tw0] 1)) = .ok () (w.alloc (.map #[tw0, tw1] 2)) := fun w => run_insert Tryz.underlying114 Tryz.underlying5 #[tw0] 1 45 _ rfl w
  have h2 : ∀ w : World, (Instr.mapUpdate 114 (.map (some w.heap.size)) (.int .u8 42) (.func (Fn.func 165) #[] #[])).run Tryz.prog (w.alloc (.map #[tw0, tw1] 2)) = .ok () (w.alloc (.map #[tw0, tw1, tw2] 3)) := fun w => run_insert Tryz.underlying114 Tryz.underlying5 #[tw0, tw1] 2 42 _ rfl w
  have h3 : ∀ w : World, (Instr.mapUpdate 114 (.map (some w.heap.size)) (.int .u8 47) (.func (Fn.func 166) #[] #[])).run Tryz.prog (w.alloc (.map #[tw0, tw1, tw2] 3)) = .ok () (w.alloc (.map #[tw0, tw1, tw2, tw3] 4)) := fun w => run_insert Tryz.underlying114 Tryz.underlying5 #[tw0, tw1, tw2] 3 47 _ rfl w
  have h4 : ∀ w : World, (Instr.mapUpdate 114 (.map (some w.heap.size)) (.int .u8 109) (.func (Fn.func 167) #[] #[])).run Tryz.prog (w.alloc (.map #[tw0, tw1, tw2, tw3] 4)) = .ok () (w.alloc (.map #[tw0, tw1, tw2, tw3, tw4] 5)) := fun w => run_insert Tryz.underlying114 Tryz.underlying5 #[tw0, tw1, tw2, tw3] 4 109 _ rfl w
  have h5 : ∀ w : World, (Instr.mapUpdate 114 (.map (some w.heap.size)) (.int .u8 77) (.func (Fn.func 168) #[] #[])).run Tryz.prog (w.alloc (.map #[tw0, tw1, tw2, tw3, tw4] 5)) = .ok () (w.alloc (.map #[tw0, tw1, tw2, tw3, tw4, tw5] 6)) := fun w => run_insert Tryz.underlying114 Tryz.underlying5 #[tw0, tw1, tw2, tw3, tw4] 5 77 _ rfl w
  go_enter Tryz.func151, Tryz.ntmps151
  go_wp2
  go_ret
  exact ⟨rfl, rfl⟩
end Go.Proofs.YtobijdfnafnodaaGreatDoor.Fl

/- flo.Two: its contract. -/
namespace Go.Proofs.YtobijdfnafnodaaGreatDoor.Fl
set_option maxRecDepth 100000
open Go.ChangeShapes Go.WideShapes Go.ChangeAt Go.RowKit
set_option linter.unusedVariables false

theorem below_drewN {B : Nat} {a w : World} (h : Below B a w) (n : Nat) : Below B a (w.drewN n) := ⟨h.os, h.tape, h.output, h.size, h.block⟩
theorem retIB {a a' : Int} {b b' : Bool} (h1 : a = a') (h2 : b = b') : Ending.returned (.tuple #[.int .i64 a, .bool b]) = .returned (.tuple #[.int .i64 a', .bool b']) := by rw [h1, h2]
def twB (op : Int) : Bool := op == 43 || op == 45 || op == 42 || op == 47 || op == 109 || op == 77
def twF (op : Int) (x y : Nat) : Option Nat :=
  if op = 43 then Ieee.double.add x y else if op = 45 then Ieee.double.sub x y else if op = 42 then Ieee.double.mul x y else if op = 47 then Ieee.double.div x y else if op = 109 then mnB x y else mxB x y
def twI (op a b : Int) : Int := if twB op then tlo (twF op (cb a) (cb b)) else 0
/-- A cell and a bool come back; but new blocks nothing has turned. -/
def IB (x : Int) (z : Bool) (w : World) (e : Ending) (w' : World) : Prop := e = .returned (.tuple #[.int .i64 x, .bool z]) ∧ Below w.heap.size w w'
theorem two_43 (a b : Int) (w : World) :
    Calls Tryz.prog 128 #[.int .u8 43, .int .i64 a, .int .i64 b] w (IB (twI 43 a b) (twB 43) w) := by
  have hl := fun w => run_find (P := Tryz.prog) Tryz.underlying114 Tryz.underlying5 twoES 6 43 (.func (Fn.func 163) #[] #[]) 0 rfl w.heap.size _ (MapKept.heap_alloc w (.map twoES 6)).1
  go_enter Tryz.func128, Tryz.ntmps128
  go_wp2_with (first | (go_at_call 151; refine (oftwo_any _).mono ?_; rintro e w' ⟨rfl, rfl⟩) | (go_at_call 131; refine (float_any _ _).mono ?_; rintro e w' ⟨rfl, rfl⟩) | (go_at_call 163; refine (cadd_any _ _ _).mono ?_; rintro e w' ⟨r, rfl, hr, n, rfl⟩; have HR := Lib.hid hr; clear hr) | (go_at_call 132; refine (told_any _ _).mono ?_; rintro e w' ⟨rfl, rfl⟩))
  go_ret2
  exact ⟨retIB HR.out rfl, below_drewN ((Below.refl _ _).alloc (Nat.le_refl _) _) _⟩
theorem two_45 (a b : Int) (w : World) :
    Calls Tryz.prog 128 #[.int .u8 45, .int .i64 a, .int .i64 b] w (IB (twI 45 a b) (twB 45) w) := by
  have hl := fun w => run_find (P := Tryz.prog) Tryz.underlying114 Tryz.underlying5 twoES 6 45 (.func (Fn.func 164) #[] #[]) 1 rfl w.heap.size _ (MapKept.heap_alloc w (.map twoES 6)).1
  go_enter Tryz.func128, Tryz.ntmps128
  go_wp2_with (first | (go_at_call 151; refine (oftwo_any _).mono ?_; rintro e w' ⟨rfl, rfl⟩) | (go_at_call 131; refine (float_any _ _).mono ?_; rintro e w' ⟨rfl, rfl⟩) | (go_at_call 164; refine (csub_any _ _ _).mono ?_; rintro e w' ⟨r, rfl, hr, n, rfl⟩; have HR := Lib.hid hr; clear hr) | (go_at_call 132; refine (told_any _ _).mono ?_; rintro e w' ⟨rfl, rfl⟩))
  go_ret2
  exact ⟨retIB HR.out rfl, below_drewN ((Below.refl _ _).alloc (Nat.le_refl _) _) _⟩
theorem two_42 (a b : Int) (w : World) :
    Calls Tryz.prog 128 #[.int .u8 42, .int .i64 a, .int .i64 b] w (IB (twI 42 a b) (twB 42) w) := by
  have hl := fun w => run_find (P := Tryz.prog) Tryz.underlying114 Tryz.underlying5 twoES 6 42 (.func (Fn.func 165) #[] #[]) 2 rfl w.heap.size _ (MapKept.heap_alloc w (.map twoES 6)).1
  go_enter Tryz.func128, Tryz.ntmps128
  go_wp2_with (first | (go_at_call 151; refine (oftwo_any _).mono ?_; rintro e w' ⟨rfl, rfl⟩) | (go_at_call 131; refine (float_any _ _).mono ?_; rintro e w' ⟨rfl, rfl⟩) | (go_at_call 165; refine (cmul_any _ _ _).mono ?_; rintro e w' ⟨r, rfl, hr, n, rfl⟩; have HR := Lib.hid hr; clear hr) | (go_at_call 132; refine (told_any _ _).mono ?_; rintro e w' ⟨rfl, rfl⟩))
  go_ret2
  exact ⟨retIB HR.out rfl, below_drewN ((Below.refl _ _).alloc (Nat.le_refl _) _) _⟩
theorem two_47 (a b : Int) (w : World) :
    Calls Tryz.prog 128 #[.int .u8 47, .int .i64 a, .int .i64 b] w (IB (twI 47 a b) (twB 47) w) := by
  have hl := fun w => run_find (P := Tryz.prog) Tryz.underlying114 Tryz.underlying5 twoES 6 47 (.func (Fn.func 166) #[] #[]) 3 rfl w.heap.size _ (MapKept.heap_alloc w (.map twoES 6)).1
  go_enter Tryz.func128, Tryz.ntmps128
  go_wp2_with (first | (go_at_call 151; refine (oftwo_any _).mono ?_; rintro e w' ⟨rfl, rfl⟩) | (go_at_call 131; refine (float_any _ _).mono ?_; rintro e w' ⟨rfl, rfl⟩) | (go_at_call 166; refine (cquo_any _ _ _).mono ?_; rintro e w' ⟨r, rfl, hr, n, rfl⟩; have HR := Lib.hid hr; clear hr) | (go_at_call 132; refine (told_any _ _).mono ?_; rintro e w' ⟨rfl, rfl⟩))
  go_ret2
  exact ⟨retIB HR.out rfl, below_drewN ((Below.refl _ _).alloc (Nat.le_refl _) _) _⟩
theorem two_109 (a b : Int) (w : World) :
    Calls Tryz.prog 128 #[.int .u8 109, .int .i64 a, .int .i64 b] w (IB (twI 109 a b) (twB 109) w) := by
  have hl := fun w => run_find (P := Tryz.prog) Tryz.underlying114 Tryz.underlying5 twoES 6 109 (.func (Fn.func 167) #[] #[]) 4 rfl w.heap.size _ (MapKept.heap_alloc w (.map twoES 6)).1
  go_enter Tryz.func128, Tryz.ntmps128
  go_wp2_with (first | (go_at_call 151; refine (oftwo_any _).mono ?_; rintro e w' ⟨rfl, rfl⟩) | (go_at_call 131; refine (float_any _ _).mono ?_; rintro e w' ⟨rfl, rfl⟩) | (go_at_call 167; refine (cmin_any _ _ _).mono ?_; rintro e w' ⟨r, rfl, hr, n, rfl⟩; have HR := Lib.hid hr; clear hr) | (go_at_call 132; refine (told_any _ _).mono ?_; rintro e w' ⟨rfl, rfl⟩))
  go_ret2
  exact ⟨retIB HR.out rfl, below_drewN ((Below.refl _ _).alloc (Nat.le_refl _) _) _⟩
theorem two_77 (a b : Int) (w : World) :
    Calls Tryz.prog 128 #[.int .u8 77, .int .i64 a, .int .i64 b] w (IB (twI 77 a b) (twB 77) w) := by
  have hl := fun w => run_find (P := Tryz.prog) Tryz.underlying114 Tryz.underlying5 twoES 6 77 (.func (Fn.func 168) #[] #[]) 5 rfl w.heap.size _ (MapKept.heap_alloc w (.map twoES 6)).1
  go_enter Tryz.func128, Tryz.ntmps128
  go_wp2_with (first | (go_at_call 151; refine (oftwo_any _).mono ?_; rintro e w' ⟨rfl, rfl⟩) | (go_at_call 131; refine (float_any _ _).mono ?_; rintro e w' ⟨rfl, rfl⟩) | (go_at_call 168; refine (cmax_any _ _ _).mono ?_; rintro e w' ⟨r, rfl, hr, n, rfl⟩; have HR := Lib.hid hr; clear hr) | (go_at_call 132; refine (told_any _ _).mono ?_; rintro e w' ⟨rfl, rfl⟩))
  go_ret2
  exact ⟨retIB HR.out rfl, below_drewN ((Below.refl _ _).alloc (Nat.le_refl _) _) _⟩
theorem find_no (op : Int) (h : twB op = false) : Instr.findNow (.int .u8) (.int .u8 op) twoES.toList 0 = some none := by
  simp only [twB, Bool.or_eq_false_iff] at h
  obtain ⟨⟨⟨⟨⟨h1, h2⟩, h3⟩, h4⟩, h5⟩, h6⟩ := h
  simp [twoES, Instr.findNow, Instr.sameNow, tw0, tw1, tw2, tw3, tw4, tw5, h1, h2, h3, h4, h5, h6]
theorem two_no (op a b : Int) (w : World) (h : twB op = false) :
    Calls Tryz.prog 128 #[.int .u8 op, .int .i64 a, .int .i64 b] w (IB 0 false w) := by
  have hl := fun w => run_find_no (P := Tryz.prog) Tryz.underlying114 Tryz.underlying5 twoES 6 op .nilFunc (fun w => by kernel_rfl) (find_no op h) w.heap.size _ (MapKept.heap_alloc w (.map twoES 6)).1
  clear h
  go_enter Tryz.func128, Tryz.ntmps128
  go_wp2_with (first | (go_at_call 151; refine (oftwo_any _).mono ?_; rintro e w' ⟨rfl, rfl⟩))
  go_ret2
  exact ⟨rfl, (Below.refl _ _).alloc (Nat.le_refl _) _⟩
theorem two_any (op a b : Int) (w : World) :
    Calls Tryz.prog 128 #[.int .u8 op, .int .i64 a, .int .i64 b] w (IB (twI op a b) (twB op) w) := by
  cases h : twB op
  · have e : twI op a b = 0 := by unfold twI; rw [h]; rfl
    rw [e]; exact two_no op a b w h
  · rw [← h]
    simp only [twB, Bool.or_eq_true, beq_iff_eq] at h
    rcases h with ((((rfl | rfl) | rfl) | rfl) | rfl) | rfl
    · exact two_43 a b w
    · exact two_45 a b w
    · exact two_42 a b w
    · exact two_47 a b w
    · exact two_109 a b w
    · exact two_77 a b w
end Go.Proofs.YtobijdfnafnodaaGreatDoor.Fl
