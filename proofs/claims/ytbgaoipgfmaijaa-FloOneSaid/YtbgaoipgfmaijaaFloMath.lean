/- Floats that stand in cells: floors, sums, cells as floats and back, in plain mathematics. -/
import Derived.Test.YtbgaoipgfmaijaaIeee
namespace Go.Proofs.Ytbgaoipgfmaijaa
open Ieee

/-! ### cuts -/
theorem cut_gap (n d : Nat) : n / (1 <<< min d (n.log2 + 2)) = n / 2 ^ d ∧ (n % (1 <<< min d (n.log2 + 2)) = 0 ↔ n % 2 ^ d = 0) := by
  rw [Nat.shiftLeft_eq, Nat.one_mul]
  by_cases h : d ≤ n.log2 + 2
  · rw [Nat.min_eq_left h]; exact ⟨rfl, Iff.rfl⟩
  · rw [Nat.min_eq_right (by omega)]
    by_cases h0 : n = 0
    · subst h0; simp
    have l2 := (log2_bd h0).2
    have a1 : (2 : Nat) ^ (n.log2 + 1) ≤ 2 ^ (n.log2 + 2) := Nat.pow_le_pow_right (by omega) (by omega)
    have a2 : (2 : Nat) ^ (n.log2 + 1) ≤ 2 ^ d := Nat.pow_le_pow_right (by omega) (by omega)
    rw [Nat.div_eq_of_lt (show n < 2 ^ (n.log2 + 2) by omega), Nat.div_eq_of_lt (show n < 2 ^ d by omega), Nat.mod_eq_of_lt (show n < 2 ^ (n.log2 + 2) by omega), Nat.mod_eq_of_lt (show n < 2 ^ d by omega)]
    exact ⟨rfl, Iff.rfl⟩
theorem cut_down (neg : Bool) (n d : Nat) : Toward.down.cut neg n d = n / 2 ^ d + (neg && n % 2 ^ d != 0).toNat := by
  obtain ⟨e1, e2⟩ := cut_gap n d
  unfold Toward.cut
  simp only
  rw [e1]
  congr 2
  cases neg
  · rfl
  · simp only [Bool.true_and]; rw [Bool.eq_iff_iff, bne_iff_ne, bne_iff_ne, Ne, Ne, e2]
theorem cut_trunc (neg : Bool) (n d : Nat) : Toward.zero.cut neg n d = n / 2 ^ d := by
  unfold Toward.cut
  simp only
  rw [(cut_gap n d).1]; simp

/-! ### one, in units -/
def kk : Nat := 1074
def uu : Nat := 2 ^ kk
theorem uu_pos : 0 < uu := Nat.two_pow_pos _
theorem uu_of (e : Nat) (h : e = kk) : 2 ^ e = uu := by rw [h]; rfl
theorem rv_two (q j : Nat) (h : q + 52 = kk + j) : rv ((q + 1) * 4503599627370496) = 2 ^ j * uu := by
  have e := rv_at q 0 (by omega)
  rw [Nat.add_zero, show 4503599627370496 + 0 = 2 ^ 52 from rfl, ← Nat.pow_add 2 52 q, show 52 + q = j + kk by omega, Nat.pow_add] at e
  exact e
theorem uu_split (i : Int) (h0 : (-1074 : Int) ≤ i) (h : i < 0) : uu = 2 ^ (-i).toNat * 2 ^ (i + 1074).toNat := by
  rw [← Nat.pow_add]; exact (uu_of _ (by unfold kk; omega)).symm
theorem uu_up (i : Int) (h : 0 ≤ i) : 2 ^ (i + 1074).toNat = 2 ^ i.toNat * uu := by
  unfold uu; rw [← Nat.pow_add]; congr 1; unfold kk; omega
/-- Small whole numbers are rungs' values. -/
theorem rep (K : Nat) (h : K ≤ 9007199254740992) : ∃ t, t < infR ∧ rv t = K * uu := by
  by_cases h0 : K = 0
  · subst h0; exact ⟨0, by decide, by rw [Nat.zero_mul]; rfl⟩
  by_cases h1 : K = 9007199254740992
  · subst h1
    have e := rv_two 1075 53 rfl
    rw [p53] at e
    exact ⟨(1075 + 1) * 4503599627370496, by decide, e⟩
  obtain ⟨l1, l2⟩ := log2_bd h0
  generalize K.log2 = L at *
  have hL : L ≤ 52 := by
    by_cases k : L ≤ 52
    · exact k
    · have : (2 : Nat) ^ 53 ≤ 2 ^ L := Nat.pow_le_pow_right (by omega) (by omega)
      rw [p53] at this; omega
  have b1 : 4503599627370496 ≤ K * 2 ^ (52 - L) := by
    have := Nat.mul_le_mul_right (2 ^ (52 - L)) l1
    rw [← Nat.pow_add, show L + (52 - L) = 52 by omega, p52] at this; exact this
  have b2 : K * 2 ^ (52 - L) < 9007199254740992 := by
    have := Nat.mul_lt_mul_of_pos_right l2 (Nat.two_pow_pos (52 - L))
    rw [← Nat.pow_add, show L + 1 + (52 - L) = 53 by omega, p53] at this; exact this
  refine ⟨(1022 + L) * 4503599627370496 + K * 2 ^ (52 - L), by unfold infR; omega, ?_⟩
  rw [rv_band _ _ (.inl b1) (by omega), Nat.mul_assoc, ← Nat.pow_add, uu_of _ (show 52 - L + (1022 + L) = kk by unfold kk; omega)]
theorem read_fin' (x : Nat) (h : rg x < infR) : ∃ m e, double.read x = .number (ng x) m e ∧ (-1074 : Int) ≤ e ∧ m * 2 ^ (e + 1074).toNat = rv (rg x) ∧ m < 9007199254740992 := by
  obtain ⟨m, e, h1, h2, h3⟩ := read_fin x h
  refine ⟨m, e, h1, h2, h3, ?_⟩
  unfold Format.read at h1
  simp only [d_binade, d_inf, d_sign, d_least] at h1
  unfold rg infR at h
  by_cases k : x % 9223372036854775808 < 4503599627370496
  · rw [if_pos k] at h1; injection h1; omega
  · rw [if_neg k, if_pos h] at h1; injection h1; omega

/-! ### rounded down, cut -/
def flB (x : Nat) : Nat := double.write ((double.read x).integral .down)
def trB (x : Nat) : Nat := double.write ((double.read x).integral .zero)
theorem lt63 {t : Nat} (h : t ≤ infR) : t < 9223372036854775808 := by unfold infR at h; omega
theorem fl_inf (x : Nat) (hx : x < 18446744073709551616) (h : rg x = infR) : flB x = x := by
  unfold flB; rw [read_inf x h]
  show double.word (ng x) double.infRung = x
  rw [d_inf]
  have := word_self x hx
  rw [h] at this; exact this
theorem shl_exact (m : Nat) (i : Int) (h : 0 ≤ i) : m * 2 ^ i.toNat * uu = m * 2 ^ (i + 1074).toNat := by rw [uu_up i h, Nat.mul_assoc]
theorem write_whole (s : Bool) (K t : Nat) (ht : t ≤ infR) (h : rv t = K * uu) : double.write (.number s K 0) = double.word s t :=
  nearest_exact s K 0 (by omega) t ht (by rw [h, uu_of _ (show ((0 : Int) + 1074).toNat = kk from rfl)])
theorem fl_fin (x : Nat) (h : rg x < infR) : ∃ K t, flB x = double.word (ng x) t ∧ t < infR ∧ rv t = K * uu ∧
    (ng x = false → rv t ≤ rv (rg x) ∧ rv (rg x) < rv t + uu) ∧ (ng x = true → rv (rg x) ≤ rv t ∧ rv t < rv (rg x) + uu) := by
  obtain ⟨m, i, e1, h1, h2, h3⟩ := read_fin' x h
  have hu := uu_pos
  by_cases hi : 0 ≤ i
  · refine ⟨m * 2 ^ i.toNat, rg x, ?_, h, by rw [shl_exact m i hi, h2], fun _ => ⟨Nat.le_refl _, by omega⟩, fun _ => ⟨Nat.le_refl _, by omega⟩⟩
    unfold flB; rw [e1]
    show double.write (.number (ng x) (Toward.down.cut (ng x) (m <<< i.toNat) (-i).toNat) 0) = _
    rw [show (-i).toNat = 0 by omega, cut_zero, Nat.shiftLeft_eq]
    exact write_whole _ _ _ (Nat.le_of_lt h) (by rw [shl_exact m i hi, h2])
  · have hs := uu_split i h1 (by omega)
    have hd1 : 2 ≤ 2 ^ (-i).toNat := by
      have : (2 : Nat) ^ 1 ≤ 2 ^ (-i).toNat := Nat.pow_le_pow_right (by omega) (by omega)
      omega
    have hm := Nat.div_add_mod m (2 ^ (-i).toNat)
    have hml := Nat.mod_lt m (Nat.two_pow_pos (-i).toNat)
    have hmd : m / 2 ^ (-i).toNat ≤ m / 2 := Nat.div_le_div_left hd1 (by omega)
    have hb : (ng x && m % 2 ^ (-i).toNat != 0).toNat ≤ 1 := Bool.toNat_le _
    have hw : flB x = double.write (.number (ng x) (m / 2 ^ (-i).toNat + (ng x && m % 2 ^ (-i).toNat != 0).toNat) 0) := by
      unfold flB; rw [e1]
      show double.write (.number (ng x) (Toward.down.cut (ng x) (m <<< i.toNat) (-i).toNat) 0) = _
      rw [show i.toNat = 0 by omega, Nat.shiftLeft_zero, cut_down]
    generalize hK : m / 2 ^ (-i).toNat + (ng x && m % 2 ^ (-i).toNat != 0).toNat = K at *
    obtain ⟨t, ht, hrt⟩ := rep K (by omega)
    refine ⟨K, t, by rw [hw]; exact write_whole _ _ _ (Nat.le_of_lt ht) hrt, ht, hrt, fun hng => ?_, fun hng => ?_⟩
    · rw [hng] at hK; simp only [Bool.false_and, Bool.toNat_false, Nat.add_zero] at hK
      rw [hrt, ← h2, hs, ← hK]
      have hp := Nat.two_pow_pos (i + 1074).toNat
      rw [← Nat.mul_assoc]
      rw [← Nat.add_mul]
      refine ⟨Nat.mul_le_mul_right _ (by rw [Nat.mul_comm]; omega), Nat.mul_lt_mul_of_pos_right (by rw [Nat.mul_comm (m / _)]; omega) hp⟩
    · rw [hng] at hK; simp only [Bool.true_and] at hK
      rw [hrt, ← h2, hs, ← hK, ← Nat.mul_assoc, ← Nat.add_mul]
      have hp := Nat.two_pow_pos (i + 1074).toNat
      by_cases h0 : m % 2 ^ (-i).toNat = 0
      · rw [h0]; simp only [bne_self_eq_false, Bool.toNat_false, Nat.add_zero]
        refine ⟨Nat.mul_le_mul_right _ (by rw [Nat.mul_comm]; omega), Nat.mul_lt_mul_of_pos_right (by rw [Nat.mul_comm (m / _)]; omega) hp⟩
      · rw [show (m % 2 ^ (-i).toNat != 0) = true from by simpa using h0]
        simp only [Bool.toNat_true]
        refine ⟨Nat.mul_le_mul_right _ (by rw [Nat.mul_comm, Nat.mul_add]; omega), Nat.mul_lt_mul_of_pos_right (by rw [Nat.mul_comm (m / _ + 1), Nat.mul_add]; omega) hp⟩
theorem tr_fin (x : Nat) (h : rg x < infR) : ∃ t, trB x = double.word (ng x) t ∧ t < infR ∧ rv t = rv (rg x) / uu * uu := by
  obtain ⟨m, i, e1, h1, h2, h3⟩ := read_fin' x h
  have hu := uu_pos
  by_cases hi : 0 ≤ i
  · refine ⟨rg x, ?_, h, by rw [← h2, ← shl_exact m i hi, Nat.mul_div_cancel _ hu]⟩
    unfold trB; rw [e1]
    show double.write (.number (ng x) (Toward.zero.cut (ng x) (m <<< i.toNat) (-i).toNat) 0) = _
    rw [show (-i).toNat = 0 by omega, cut_zero, Nat.shiftLeft_eq]
    exact write_whole _ _ _ (Nat.le_of_lt h) (by rw [shl_exact m i hi, h2])
  · have hs := uu_split i h1 (by omega)
    have hmd : m / 2 ^ (-i).toNat ≤ m := Nat.div_le_self _ _
    obtain ⟨t, ht, hrt⟩ := rep (m / 2 ^ (-i).toNat) (by omega)
    refine ⟨t, ?_, ht, ?_⟩
    · unfold trB; rw [e1]
      show double.write (.number (ng x) (Toward.zero.cut (ng x) (m <<< i.toNat) (-i).toNat) 0) = _
      rw [show i.toNat = 0 by omega, Nat.shiftLeft_zero, cut_trunc]
      exact write_whole _ _ _ (Nat.le_of_lt ht) hrt
    · rw [hrt, ← h2, hs, Nat.mul_div_mul_right _ _ (Nat.two_pow_pos _)]
theorem toInt_fin (x : Nat) (h : rg x < infR) : (double.read x).toInt .zero = some (if ng x then -((rv (rg x) / uu : Nat) : Int) else (rv (rg x) / uu : Nat)) := by
  obtain ⟨m, i, e1, h1, h2, h3⟩ := read_fin' x h
  rw [e1]
  show some (signed (ng x) (Toward.zero.cut (ng x) (m <<< i.toNat) (-i).toNat) 0) = _
  unfold signed
  rw [Nat.shiftLeft_zero]
  have e : Toward.zero.cut (ng x) (m <<< i.toNat) (-i).toNat = rv (rg x) / uu := by
    by_cases hi : 0 ≤ i
    · rw [show (-i).toNat = 0 by omega, cut_zero, Nat.shiftLeft_eq, ← h2, ← shl_exact m i hi, Nat.mul_div_cancel _ uu_pos]
    · rw [show i.toNat = 0 by omega, Nat.shiftLeft_zero, cut_trunc, ← h2, uu_split i h1 (by omega), Nat.mul_div_mul_right _ _ (Nat.two_pow_pos _)]
  rw [e]
theorem toInt_tr (x : Nat) (h : rg x < infR) : (double.read (trB x)).toInt .zero = (double.read x).toInt .zero := by
  obtain ⟨t, e1, h1, h2⟩ := tr_fin x h
  rw [e1, toInt_fin x h, toInt_fin _ (by rw [rg_word _ _ (lt63 (Nat.le_of_lt h1))]; exact h1), rg_word _ _ (lt63 (Nat.le_of_lt h1)), ng_word _ _ (lt63 (Nat.le_of_lt h1)), h2, Nat.mul_div_cancel _ uu_pos]

/-! ### floors, told by values -/
theorem nan_word (s : Bool) (t : Nat) (h : t ≤ infR) : nanB (double.word s t) = false := by
  unfold nanB; rw [rg_word _ _ (lt63 h)]; simpa using h
theorem sv_word (s : Bool) (t : Nat) (h : t ≤ infR) : sv (double.word s t) = if s then -(rv t : Int) else rv t := by
  unfold sv; rw [rg_word _ _ (lt63 h), ng_word _ _ (lt63 h)]
theorem nan_fin {x : Nat} (h : nanB x = false) : rg x ≤ infR := by simpa [nanB] using h
theorem fl_num (x : Nat) (hx : x < 18446744073709551616) (h : nanB x = false) : nanB (flB x) = false := by
  have := nan_fin h
  by_cases e : rg x = infR
  · rw [fl_inf x hx e]; exact h
  · obtain ⟨K, t, e1, h1, _⟩ := fl_fin x (by omega)
    rw [e1]; exact nan_word _ _ (by omega)
theorem fl_le (x : Nat) (hx : x < 18446744073709551616) (h : nanB x = false) : sv (flB x) ≤ sv x := by
  have := nan_fin h
  by_cases e : rg x = infR
  · rw [fl_inf x hx e]; exact Int.le_refl _
  · obtain ⟨K, t, e1, h1, h2, h3, h4⟩ := fl_fin x (by omega)
    rw [e1, sv_word _ _ (by omega)]
    unfold sv
    cases hn : ng x
    · have := (h3 hn).1; simp; omega
    · have := (h4 hn).1; simp; omega
theorem mul_close {a b u : Nat} (h1 : a * u ≤ b * u) (h2 : b * u < a * u + u) (hu : 0 < u) : a = b := by
  have c1 := Nat.le_of_mul_le_mul_right h1 hu
  have c2 : b * u < (a + 1) * u := by rw [Nat.add_mul, Nat.one_mul]; exact h2
  have c3 := Nat.lt_of_mul_lt_mul_right c2
  omega
theorem fl_fl (x : Nat) (hx : x < 18446744073709551616) (h : nanB x = false) : flB (flB x) = flB x := by
  have := nan_fin h
  by_cases e : rg x = infR
  · rw [fl_inf x hx e, fl_inf x hx e]
  · obtain ⟨K, t, e1, h1, h2, _, _⟩ := fl_fin x (by omega)
    have l := lt63 (Nat.le_of_lt h1)
    obtain ⟨K', t', e1', h1', h2', h3', h4'⟩ := fl_fin (double.word (ng x) t) (by rw [rg_word _ _ l]; exact h1)
    rw [rg_word _ _ l, ng_word _ _ l] at *
    rw [e1, e1']
    congr 1
    apply rv_inj
    cases hn : ng x
    · obtain ⟨a, b⟩ := h3' hn
      rw [h2, h2'] at *
      rw [mul_close a b uu_pos]
    · obtain ⟨a, b⟩ := h4' hn
      rw [h2, h2'] at *
      rw [mul_close a b uu_pos]

/-! ### sums -/
theorem signed_tot (T : Int) (k : Nat) : (T.natAbs * k : Nat) = (T * k).natAbs := by rw [Int.natAbs_mul]; rfl
/-- A sum of two finite floats: its sign, and how it is rounded. -/
theorem add_fin (x y : Nat) (hx : rg x < infR) (hy : rg y < infR) : ∃ s q, double.add x y = some (double.word s q) ∧ q ≤ infR ∧ (sv x + sv y < 0 → s = true) ∧ (0 < sv x + sv y → s = false) ∧
    (∀ r, r ≤ infR → (rv r : Int) ≤ (sv x + sv y).natAbs → r ≤ q) ∧ (∀ r, ((sv x + sv y).natAbs : Int) ≤ rv r → q ≤ r) := by
  obtain ⟨m, i, e1, hi, hm⟩ := read_fin x hx
  obtain ⟨n, j, e2, hj, hn⟩ := read_fin y hy
  have hadd : double.add x y = some (double.nearest (if signed (ng x) m (i - min i j).toNat + signed (ng y) n (j - min i j).toNat = 0 then ng x && ng y else signed (ng x) m (i - min i j).toNat + signed (ng y) n (j - min i j).toNat < 0)
      (signed (ng x) m (i - min i j).toNat + signed (ng y) n (j - min i j).toNat).natAbs (min i j)) := by
    unfold Format.add; rw [e1, e2]; rfl
  have ex := signed_mul (ng x) m i (min i j) (by omega) (by omega)
  have ey := signed_mul (ng y) n j (min i j) (by omega) (by omega)
  rw [hm] at ex; rw [hn] at ey
  have hs : (signed (ng x) m (i - min i j).toNat + signed (ng y) n (j - min i j).toNat) * (2 ^ (min i j + 1074).toNat : Nat) = sv x + sv y := by
    rw [Int.add_mul, ex, ey]; rfl
  generalize signed (ng x) m (i - min i j).toNat + signed (ng y) n (j - min i j).toNat = T at *
  obtain ⟨q, hq, hw, k1, k2⟩ := nearest_rung (if T = 0 then ng x && ng y else T < 0) T.natAbs (min i j) (by omega)
  have hp : (0 : Int) < (2 ^ (min i j + 1074).toNat : Nat) := by have := Nat.two_pow_pos (min i j + 1074).toNat; omega
  have hp' := Nat.two_pow_pos (min i j + 1074).toNat
  rw [signed_tot T _, hs] at k1 k2
  rw [hadd, hw]
  refine ⟨_, q, rfl, hq, fun h => ?_, fun h => ?_, fun r h1 h2 => k1 r h1 (by omega), fun r h1 => k2 r (by omega)⟩
  · have hT : T < 0 := by
      by_cases c : T < 0
      · exact c
      · have := Int.mul_nonneg (show 0 ≤ T by omega) (Int.le_of_lt hp); omega
    rw [if_neg (by omega)]; simpa using hT
  · have hT : 0 < T := by
      by_cases c : 0 < T
      · exact c
      · have := Int.mul_nonneg (show 0 ≤ -T by omega) (Int.le_of_lt hp)
        rw [Int.neg_mul] at this; omega
    rw [if_neg (by omega)]; simp; omega
theorem one_sv : sv 4607182418800017408 = uu := by
  have e := rv_two 1022 0 rfl
  have : rv (rg 4607182418800017408) = uu := by
    rw [show rg 4607182418800017408 = (1022 + 1) * 4503599627370496 by decide, e, Nat.pow_zero, Nat.one_mul]
  unfold sv
  rw [show ng 4607182418800017408 = false by decide, this]; rfl
/-- Rounded down, and one more: not below what it was. -/
theorem fl_up (x : Nat) (hx : x < 18446744073709551616) (h : nanB x = false) : ∃ r, double.add (flB x) 4607182418800017408 = some r ∧ nanB r = false ∧ r < 18446744073709551616 ∧ sv x ≤ sv r := by
  have := nan_fin h
  by_cases e : rg x = infR
  · rw [fl_inf x hx e]
    refine ⟨x, ?_, h, hx, Int.le_refl _⟩
    unfold Format.add
    rw [read_inf x e]
    obtain ⟨m, i, e1, _⟩ := read_fin 4607182418800017408 (by decide)
    rw [e1]
    show some (double.word (ng x) double.infRung) = some x
    have := word_self x hx
    rw [d_inf]; rw [e] at this; exact congrArg some this
  · obtain ⟨K, t, e1, h1, h2, h3, h4⟩ := fl_fin x (by omega)
    rw [e1]
    obtain ⟨s, q, e2, hq, n1, n2, k1, k2⟩ := add_fin (double.word (ng x) t) 4607182418800017408 (by rw [rg_word _ _ (lt63 (by omega))]; exact h1) (by decide)
    rw [one_sv, sv_word _ _ (show t ≤ infR by omega)] at n1 n2 k1 k2
    have hwl : double.word s q < 18446744073709551616 := by rw [word_eq]; have := lt63 hq; cases s <;> simp <;> omega
    refine ⟨_, e2, nan_word _ _ hq, hwl, ?_⟩
    rw [sv_word _ _ hq]
    have hu := uu_pos
    have hxr : sv x = if ng x then -(rv (rg x) : Int) else rv (rg x) := rfl
    have hT : sv x ≤ (if ng x then -(rv t : Int) else rv t) + uu := by
      rw [hxr]
      cases hn : ng x
      · have := h3 hn; simp; omega
      · have := h4 hn; simp; omega
    generalize hTT : (if ng x then -(rv t : Int) else rv t) + uu = T at *
    rcases Int.lt_trichotomy T 0 with c | c | c
    · rw [n1 c]
      cases hn : ng x
      · rw [hn] at hxr; simp at hxr; omega
      · rw [hn] at hxr; simp at hxr
        have := rv_le (k2 (rg x) (by omega))
        simp; omega
    · have q0 : q = 0 := by
        have := k2 0 (by rw [c]; decide)
        omega
      rw [q0]
      have z : rv 0 = 0 := rfl
      rw [z]
      cases s <;> simp <;> omega
    · rw [n2 c]
      cases hn : ng x
      · rw [hn] at hxr; simp at hxr
        have := rv_le (k1 (rg x) (by omega) (by omega))
        simp; omega
      · rw [hn] at hxr; simp at hxr; simp; omega
end Go.Proofs.Ytbgaoipgfmaijaa
