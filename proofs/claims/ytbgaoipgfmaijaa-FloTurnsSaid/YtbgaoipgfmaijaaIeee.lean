/- IEEE 754 doubles as rungs of one ladder: what reading, ordering and rounding give. Plain mathematics over the library's floats. -/
import Derived.Laws.FloatBits
import Derived.Laws.FloatArith
namespace Go.Proofs.Ytbgaoipgfmaijaa
open Ieee

/-! ### the ladder: the value of a rung, in units of the least place -/
def rv (r : Nat) : Nat := if r < 4503599627370496 then r else (4503599627370496 + r % 4503599627370496) * 2 ^ (r / 4503599627370496 - 1)

theorem rv_at (q m : Nat) (hm : m < 4503599627370496) : rv ((q + 1) * 4503599627370496 + m) = (4503599627370496 + m) * 2 ^ q := by
  unfold rv
  rw [if_neg (by omega), show ((q + 1) * 4503599627370496 + m) % 4503599627370496 = m by omega, show ((q + 1) * 4503599627370496 + m) / 4503599627370496 - 1 = q by omega]
theorem rv_low (r : Nat) (h : r < 4503599627370496) : rv r = r := by unfold rv; rw [if_pos h]
theorem rv_band (e k : Nat) (h1 : 4503599627370496 ≤ k ∨ e = 0) (h2 : k ≤ 9007199254740992) : rv (e * 4503599627370496 + k) = k * 2 ^ e := by
  by_cases h : k < 4503599627370496
  · have : e = 0 := by omega
    subst this; rw [rv_low _ (by omega)]; simp
  · by_cases h' : k = 9007199254740992
    · subst h'
      have := rv_at (e + 1) 0 (by omega)
      rw [show (e + 1 + 1) * 4503599627370496 + 0 = e * 4503599627370496 + 9007199254740992 by omega] at this
      rw [this, Nat.pow_succ]; omega
    · have := rv_at e (k - 4503599627370496) (by omega)
      rw [show (e + 1) * 4503599627370496 + (k - 4503599627370496) = e * 4503599627370496 + k by omega] at this
      rw [this, show 4503599627370496 + (k - 4503599627370496) = k by omega]
theorem rv_succ (r : Nat) : rv r < rv (r + 1) := by
  by_cases h : r + 1 < 4503599627370496
  · rw [rv_low _ h, rv_low _ (by omega)]; omega
  · by_cases h1 : r < 4503599627370496
    · have : r = 4503599627370495 := by omega
      subst this; decide
    · have e1 := rv_at (r / 4503599627370496 - 1) (r % 4503599627370496) (by omega)
      rw [show (r / 4503599627370496 - 1 + 1) * 4503599627370496 + r % 4503599627370496 = r by omega] at e1
      have hp : 0 < 2 ^ (r / 4503599627370496 - 1) := Nat.two_pow_pos _
      have e2 := rv_band (r / 4503599627370496 - 1) (4503599627370496 + r % 4503599627370496 + 1) (by omega) (by omega)
      rw [show (r / 4503599627370496 - 1) * 4503599627370496 + (4503599627370496 + r % 4503599627370496 + 1) = r + 1 by omega] at e2
      rw [e1, e2, Nat.add_mul _ 1]; omega
theorem rv_lt {r s : Nat} (h : r < s) : rv r < rv s := by
  induction s with
  | zero => omega
  | succ s ih =>
    by_cases e : r = s
    · subst e; exact rv_succ r
    · exact Nat.lt_trans (ih (by omega)) (rv_succ s)
theorem rv_le {r s : Nat} (h : r ≤ s) : rv r ≤ rv s := by
  by_cases e : r = s
  · subst e; exact Nat.le_refl _
  · exact Nat.le_of_lt (rv_lt (by omega))
theorem lt_of_rv {r s : Nat} (h : rv r < rv s) : r < s := by
  by_cases k : r < s
  · exact k
  · have := rv_le (show s ≤ r by omega); omega
theorem le_of_rv {r s : Nat} (h : rv r ≤ rv s) : r ≤ s := by
  by_cases k : r ≤ s
  · exact k
  · have := rv_lt (show s < r by omega); omega
theorem rv_inj {r s : Nat} (h : rv r = rv s) : r = s := Nat.le_antisymm (le_of_rv (by omega)) (le_of_rv (by omega))

/-! ### the format's numbers -/
theorem d_binade : double.binade = 4503599627370496 := by decide
theorem d_inf : double.infRung = 9218868437227405312 := by decide
theorem d_sign : double.signWeight = 9223372036854775808 := by decide
theorem d_least : double.leastPlace = -1074 := by decide
theorem d_frac : double.fractionBits = 52 := rfl
def infR : Nat := 9218868437227405312

/-! ### reading -/
def ng (x : Nat) : Bool := x / 9223372036854775808 % 2 == 1
def rg (x : Nat) : Nat := x % 9223372036854775808
theorem read_fin (x : Nat) (h : rg x < infR) : ∃ m e, double.read x = .number (ng x) m e ∧ (-1074 : Int) ≤ e ∧ m * 2 ^ (e + 1074).toNat = rv (rg x) := by
  unfold rg infR at h
  by_cases h1 : rg x < 4503599627370496
  · refine ⟨rg x, -1074, ?_, by omega, ?_⟩
    · unfold Format.read; simp only [d_binade, d_inf, d_sign, d_least]
      unfold rg at h1 ⊢; rw [if_pos h1]; rfl
    · rw [rv_low _ h1]; simp
  · refine ⟨4503599627370496 + rg x % 4503599627370496, -1074 + (rg x / 4503599627370496 - 1 : Nat), ?_, by omega, ?_⟩
    · unfold Format.read; simp only [d_binade, d_inf, d_sign, d_least]
      unfold rg at h1 ⊢; rw [if_neg h1, if_pos h]; rfl
    · unfold rv; rw [if_neg h1, show (-1074 + ((rg x / 4503599627370496 - 1 : Nat) : Int) + 1074).toNat = rg x / 4503599627370496 - 1 by omega]
theorem read_inf (x : Nat) (h : rg x = infR) : double.read x = .infinity (ng x) := by
  unfold rg infR at h
  unfold Format.read; simp only [d_binade, d_inf, d_sign, d_least, h]
  rfl
theorem read_nan (x : Nat) (h : infR < rg x) : double.read x = .nan (ng x) (rg x - infR) := by
  unfold infR at h
  unfold Format.read; simp only [d_binade, d_inf, d_sign, d_least]
  unfold rg infR at *
  rw [if_neg (by omega), if_neg (by omega), if_neg (by omega)]; rfl

/-! ### the ordering -/
def nanB (x : Nat) : Bool := decide (infR < rg x)
/-- The signed value, infinity beyond all numbers. -/
def sv (x : Nat) : Int := if ng x then -(rv (rg x) : Int) else rv (rg x)

theorem pow_split (a b : Int) (h1 : (-1074 : Int) ≤ b) (h2 : b ≤ a) : (2 : Nat) ^ (a + 1074).toNat = 2 ^ (a - b).toNat * 2 ^ (b + 1074).toNat := by
  rw [← Nat.pow_add]; congr 1; omega
theorem signed_mul (s : Bool) (m : Nat) (i base : Int) (h1 : (-1074 : Int) ≤ base) (h2 : base ≤ i) :
    signed s m (i - base).toNat * (2 ^ (base + 1074).toNat : Nat) = if s then -((m * 2 ^ (i + 1074).toNat : Nat) : Int) else (m * 2 ^ (i + 1074).toNat : Nat) := by
  unfold signed
  rw [Nat.shiftLeft_eq, pow_split i base h1 h2, ← Nat.mul_assoc]
  cases s
  · simp
  · simp [Int.neg_mul]
theorem cmp_mul (a b : Int) (k : Nat) (hk : 0 < k) : compare (a * k) (b * k) = compare a b := by
  have hk' : (0 : Int) < k := by omega
  rcases Int.lt_trichotomy a b with h | h | h
  · rw [Int.compare_eq_lt.2 h, Int.compare_eq_lt.2 (Int.mul_lt_mul_of_pos_right h hk')]
  · subst h; simp
  · rw [Int.compare_eq_gt.2 h, Int.compare_eq_gt.2 (Int.mul_lt_mul_of_pos_right h hk')]
theorem rv_pos {r : Nat} (h : 0 < r) : 0 < rv r := Nat.lt_of_le_of_lt (Nat.zero_le _) (rv_lt h)
theorem rv_inf_pos : 0 < rv infR := rv_pos (by decide)
theorem order_num (x y : Nat) (hx : nanB x = false) (hy : nanB y = false) : double.order x y = some (compare (sv x) (sv y)) := by
  have hx' : rg x ≤ infR := by simpa [nanB] using hx
  have hy' : rg y ≤ infR := by simpa [nanB] using hy
  unfold Format.order
  by_cases ex : rg x = infR
  · by_cases ey : rg y = infR
    · rw [read_inf x ex, read_inf y ey]; unfold sv; rw [ex, ey]
      have := rv_inf_pos
      generalize rv infR = V at *
      cases ng x <;> cases ng y
      · exact Eq.trans (b := some Ordering.eq) (by decide) (congrArg some (Int.compare_eq_eq.2 rfl).symm)
      · exact Eq.trans (b := some Ordering.gt) (by decide) (congrArg some (Int.compare_eq_gt.2 (by simp; omega)).symm)
      · exact Eq.trans (b := some Ordering.lt) (by decide) (congrArg some (Int.compare_eq_lt.2 (by simp; omega)).symm)
      · exact Eq.trans (b := some Ordering.eq) (by decide) (congrArg some (Int.compare_eq_eq.2 rfl).symm)
    · obtain ⟨n, j, e, _, _⟩ := read_fin y (by omega)
      rw [read_inf x ex, e]; unfold sv; rw [ex]
      have := rv_lt (show rg y < infR by omega)
      cases ng x <;> cases ng y <;> simp [Datum.order] <;> first | (rw [eq_comm, Int.compare_eq_lt]; omega) | (rw [eq_comm, Int.compare_eq_gt]; omega)
  · obtain ⟨m, i, e1, hi, hm⟩ := read_fin x (by omega)
    by_cases ey : rg y = infR
    · rw [read_inf y ey, e1]; unfold sv; rw [ey]
      have := rv_lt (show rg x < infR by omega)
      cases ng x <;> cases ng y <;> simp [Datum.order] <;> first | (rw [eq_comm, Int.compare_eq_lt]; omega) | (rw [eq_comm, Int.compare_eq_gt]; omega)
    · obtain ⟨n, j, e2, hj, hn⟩ := read_fin y (by omega)
      rw [e1, e2]
      show some (compare (signed (ng x) m (i - min i j).toNat) (signed (ng y) n (j - min i j).toNat)) = _
      rw [← cmp_mul _ _ (2 ^ (min i j + 1074).toNat) (Nat.two_pow_pos _), signed_mul _ _ _ _ (by omega) (by omega), signed_mul _ _ _ _ (by omega) (by omega), hm, hn]
      rfl
theorem order_nan (x y : Nat) (h : nanB x = true ∨ nanB y = true) : double.order x y = none := by
  unfold Format.order
  rcases h with h | h
  · rw [read_nan x (by simpa [nanB] using h)]; rfl
  · rw [read_nan y (by simpa [nanB] using h)]; cases double.read x <;> rfl
theorem order_self (x : Nat) : (double.order x x == some .eq) = !nanB x := by
  cases h : nanB x
  · rw [order_num x x h h]; simp
  · rw [order_nan x x (.inl h)]; rfl
theorem order_swap (x y : Nat) : double.order y x = (double.order x y).map Ordering.swap := by
  cases hx : nanB x
  · cases hy : nanB y
    · rw [order_num x y hx hy, order_num y x hy hx]
      simp only [Option.map_some, Option.some.injEq]
      rcases Int.lt_trichotomy (sv x) (sv y) with h | h | h
      · rw [Int.compare_eq_lt.2 h, Int.compare_eq_gt.2 h]; rfl
      · rw [h]; simp
      · rw [Int.compare_eq_gt.2 h, Int.compare_eq_lt.2 h]; rfl
    · rw [order_nan x y (.inr hy), order_nan y x (.inl hy)]; rfl
  · rw [order_nan x y (.inl hx), order_nan y x (.inr hx)]; rfl
/-- x below y. -/
def ltB (x y : Nat) : Bool := double.order x y == some .lt
theorem lt_num (x y : Nat) (hx : nanB x = false) (hy : nanB y = false) : ltB x y = decide (sv x < sv y) := by
  unfold ltB; rw [order_num x y hx hy]
  rw [Bool.eq_iff_iff]; simp [Int.compare_eq_lt]
theorem lt_nan (x y : Nat) (h : nanB x = true ∨ nanB y = true) : ltB x y = false := by
  unfold ltB; rw [order_nan x y h]; rfl
theorem gt_lt (x y : Nat) : (double.order x y == some .gt) = ltB y x := by
  unfold ltB; rw [order_swap x y]
  cases double.order x y with
  | none => rfl
  | some o => cases o <;> rfl
def eqB (x y : Nat) : Bool := double.order x y == some .eq
theorem eq_num (x y : Nat) (hx : nanB x = false) (hy : nanB y = false) : eqB x y = decide (sv x = sv y) := by
  unfold eqB; rw [order_num x y hx hy]
  rw [Bool.eq_iff_iff]; simp
theorem eq_nan (x y : Nat) (h : nanB x = true ∨ nanB y = true) : eqB x y = false := by
  unfold eqB; rw [order_nan x y h]; rfl

/-! ### rounding -/
theorem cut_zero (way : Toward) (neg : Bool) (n : Nat) : way.cut neg n 0 = n := by
  have e : (1 <<< min 0 (n.log2 + 2)) = 1 := by simp
  unfold Toward.cut
  simp only [e]
  cases way <;> simp [Nat.mod_one]
theorem cut_even (neg : Bool) (n d : Nat) (h : d ≤ n.log2 + 2) : ∃ b : Bool, Toward.even.cut neg n d = n / 2 ^ d + b.toNat ∧ (n % 2 ^ d = 0 → b = false) := by
  have e : (1 <<< min d (n.log2 + 2)) = 2 ^ d := by rw [Nat.min_eq_left h, Nat.shiftLeft_eq, Nat.one_mul]
  have hp : 0 < 2 ^ d := Nat.two_pow_pos _
  unfold Toward.cut
  simp only [e]
  refine ⟨_, rfl, fun h0 => ?_⟩
  rw [h0]; simp
theorem rung_of (N e low rest : Nat) (b : Bool) (hN : N = low * 2 ^ e + rest) (hr : rest < 2 ^ e) (h1 : 4503599627370496 ≤ low ∨ e = 0) (h2 : low < 9007199254740992) (hb : rest = 0 → b = false) :
    (∀ s, rv s ≤ N → s ≤ e * 4503599627370496 + (low + b.toNat)) ∧ (∀ s, N ≤ rv s → e * 4503599627370496 + (low + b.toNat) ≤ s) := by
  have e1 := rv_band e low h1 (by omega)
  have e2 := rv_band e (low + 1) (by omega) (by omega)
  rw [Nat.add_mul, Nat.one_mul] at e2
  refine ⟨fun s hs => ?_, fun s hs => ?_⟩
  · have : s < e * 4503599627370496 + (low + 1) := lt_of_rv (by omega)
    omega
  · by_cases h0 : rest = 0
    · rw [hb h0]
      have := le_of_rv (show rv (e * 4503599627370496 + low) ≤ rv s by omega)
      simpa using this
    · have := lt_of_rv (show rv (e * 4503599627370496 + low) < rv s by omega)
      have : b.toNat ≤ 1 := Bool.toNat_le b
      omega
theorem log2_bd {n : Nat} (h : n ≠ 0) : 2 ^ n.log2 ≤ n ∧ n < 2 ^ (n.log2 + 1) := ⟨(Nat.le_log2 h).1 (Nat.le_refl _), (Nat.log2_lt h).1 (Nat.lt_succ_self _)⟩
theorem p52 : (2 : Nat) ^ 52 = 4503599627370496 := by decide
theorem p53 : (2 : Nat) ^ 53 = 9007199254740992 := by decide
/-- The rung to which 'mag * 2 ^ place' is rounded. -/
theorem nearest_rung (neg : Bool) (mag : Nat) (place : Int) (hp : (-1074 : Int) ≤ place) :
    ∃ r, r ≤ infR ∧ double.nearest neg mag place = double.word neg r ∧ (∀ s, s ≤ infR → rv s ≤ mag * 2 ^ (place + 1074).toNat → s ≤ r) ∧ (∀ s, mag * 2 ^ (place + 1074).toNat ≤ rv s → r ≤ s) := by
  by_cases h0 : mag = 0
  · subst h0
    refine ⟨0, Nat.zero_le _, ?_, fun s _ hs => ?_, fun s _ => Nat.zero_le _⟩
    · unfold Format.nearest; rw [if_pos rfl]
    · exact le_of_rv (by rw [show rv 0 = 0 from rfl]; omega)
  · unfold Format.nearest
    rw [if_neg h0]
    simp only [d_frac, d_least, d_binade, d_inf]
    obtain ⟨l1, l2⟩ := log2_bd h0
    generalize hl : mag.log2 = L at *
    generalize hlast : max (place + (L : Int) - ((52 : Nat) : Int)) (-1074) = last
    have hla : last = place + L - 52 ∨ last = -1074 := by omega
    have hlb : place + L - 52 ≤ last ∧ -1074 ≤ last := by omega
    -- where it is shifted up
    by_cases hs : last ≤ place
    · have ed : (last - place).toNat = 0 := by omega
      rw [ed, cut_zero, Nat.shiftLeft_eq]
      have eN : mag * 2 ^ (place + 1074).toNat = mag * 2 ^ (place - last).toNat * 2 ^ (last + 1074).toNat + 0 := by
        rw [pow_split place last hlb.2 hs, ← Nat.mul_assoc]; rfl
      have hlow : mag * 2 ^ (place - last).toNat < 9007199254740992 := by
        have a1 : mag * 2 ^ (place - last).toNat < 2 ^ (L + 1) * 2 ^ (place - last).toNat := Nat.mul_lt_mul_of_pos_right l2 (Nat.two_pow_pos _)
        rw [← Nat.pow_add] at a1
        have a2 : (2 : Nat) ^ (L + 1 + (place - last).toNat) ≤ 2 ^ 53 := Nat.pow_le_pow_right (by omega) (by omega)
        rw [p53] at a2; omega
      have hge : 4503599627370496 ≤ mag * 2 ^ (place - last).toNat ∨ (last + 1074).toNat = 0 := by
        rcases hla with h | h
        · left
          have a1 : 2 ^ L * 2 ^ (place - last).toNat ≤ mag * 2 ^ (place - last).toNat := Nat.mul_le_mul_right _ l1
          rw [← Nat.pow_add, show L + (place - last).toNat = 52 by omega, p52] at a1
          exact a1
        · right; omega
      obtain ⟨k1, k2⟩ := rung_of _ (last + 1074).toNat _ 0 false eN (Nat.two_pow_pos _) hge hlow (fun _ => rfl)
      simp only [Bool.toNat_false, Nat.add_zero] at k1 k2
      refine ⟨_, Nat.min_le_right _ _, rfl, fun s h1 h2 => ?_, fun s h2 => ?_⟩
      · rw [show (last - -1074) = last + 1074 by omega]; exact Nat.le_min.2 ⟨k1 s h2, h1⟩
      · rw [show (last - -1074) = last + 1074 by omega]; exact Nat.le_trans (Nat.min_le_left _ _) (k2 s h2)
    · have hl2 : last = place + L - 52 := by omega
      have ed : (place - last).toNat = 0 := by omega
      rw [ed, Nat.shiftLeft_zero]
      have hdd : (last - place).toNat + 52 = L := by omega
      obtain ⟨b, ec, hb⟩ := cut_even neg mag (last - place).toNat (by omega)
      rw [ec]
      generalize hd : (last - place).toNat = d at *
      have hm := Nat.div_add_mod mag (2 ^ d)
      have hml := Nat.mod_lt mag (Nat.two_pow_pos d)
      have es : 2 ^ (last + 1074).toNat = 2 ^ d * 2 ^ (place + 1074).toNat := by rw [pow_split last place hp (by omega), hd]
      have hpp : 0 < 2 ^ (place + 1074).toNat := Nat.two_pow_pos _
      have eN : mag * 2 ^ (place + 1074).toNat = mag / 2 ^ d * 2 ^ (last + 1074).toNat + mag % 2 ^ d * 2 ^ (place + 1074).toNat := by
        rw [es, ← Nat.mul_assoc, ← Nat.add_mul, Nat.mul_comm (mag / 2 ^ d), hm]
      have hr : mag % 2 ^ d * 2 ^ (place + 1074).toNat < 2 ^ (last + 1074).toNat := by
        rw [es]; exact Nat.mul_lt_mul_of_pos_right hml hpp
      have hlow : mag / 2 ^ d < 9007199254740992 := by
        rw [Nat.div_lt_iff_lt_mul (Nat.two_pow_pos d), ← p53, ← Nat.pow_add, show 53 + d = L + 1 by omega]; exact l2
      have hge : 4503599627370496 ≤ mag / 2 ^ d := by
        rw [Nat.le_div_iff_mul_le (Nat.two_pow_pos d), ← p52, ← Nat.pow_add, show 52 + d = L by omega]; exact l1
      obtain ⟨k1, k2⟩ := rung_of _ (last + 1074).toNat _ _ b eN hr (.inl hge) hlow (fun h => hb (by
        rcases Nat.mul_eq_zero.1 h with h | h
        · exact h
        · omega))
      refine ⟨_, Nat.min_le_right _ _, rfl, fun s h1 h2 => ?_, fun s h2 => ?_⟩
      · rw [show (last - -1074) = last + 1074 by omega]; exact Nat.le_min.2 ⟨k1 s h2, h1⟩
      · rw [show (last - -1074) = last + 1074 by omega]; exact Nat.le_trans (Nat.min_le_left _ _) (k2 s h2)

/-! ### words -/
theorem word_eq (neg : Bool) (r : Nat) : double.word neg r = if neg then 9223372036854775808 + r else r := by
  unfold Format.word; rw [d_sign]
theorem rg_word (neg : Bool) (r : Nat) (h : r < 9223372036854775808) : rg (double.word neg r) = r := by
  rw [word_eq]; unfold rg; cases neg <;> simp <;> omega
theorem ng_word (neg : Bool) (r : Nat) (h : r < 9223372036854775808) : ng (double.word neg r) = neg := by
  rw [word_eq]; unfold ng; cases neg
  · simp; omega
  · simp; omega
theorem word_self (x : Nat) (h : x < 18446744073709551616) : double.word (ng x) (rg x) = x := by
  rw [word_eq]; unfold ng rg
  by_cases h1 : x / 9223372036854775808 % 2 = 1
  · simp [h1]; omega
  · simp [h1]; omega
/-- What is a rung's value, rounded, is that rung. -/
theorem nearest_exact (neg : Bool) (mag : Nat) (place : Int) (hp : (-1074 : Int) ≤ place) (r : Nat) (hr : r ≤ infR) (h : mag * 2 ^ (place + 1074).toNat = rv r) : double.nearest neg mag place = double.word neg r := by
  obtain ⟨q, _, e, k1, k2⟩ := nearest_rung neg mag place hp
  have a := k1 r hr (by omega)
  have b := k2 r (by omega)
  rw [e, show q = r by omega]
end Go.Proofs.Ytbgaoipgfmaijaa
