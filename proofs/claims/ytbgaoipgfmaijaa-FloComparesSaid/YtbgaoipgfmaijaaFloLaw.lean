/- What the laws ask of floats that stand in cells, as plain facts; the helpers' contracts told from the first world on. -/
import Derived.Test.YtbgaoipgfmaijaaFloAwake
namespace Go.Proofs.Ytbgaoipgfmaijaa
open Go.ChangeShapes Go.WideShapes Go.ChangeAt Go.RowKit
set_option linter.unusedVariables false

theorem ltwo_from {w0 W : World} (op a b : Int) (h : Below w0.heap.size w0 W) :
    Calls Try.prog 16 #[.int .u8 op, .int .i64 a, .int .i64 b] W fun e w' => e = .returned (.int .i64 (twI op a b)) ∧ Below w0.heap.size w0 w' :=
  (ltwo_any op a b W).mono fun _ _ ⟨he, hb⟩ => ⟨he, h.trans (hb.mono h.size)⟩
theorem lone_from {w0 W : World} (op a : Int) (h : Below w0.heap.size w0 W) :
    Calls Try.prog 13 #[.int .u8 op, .int .i64 a] W fun e w' => e = .returned (.int .i64 (onI op a)) ∧ Below w0.heap.size w0 w' :=
  (lone_any op a W).mono fun _ _ ⟨he, hb⟩ => ⟨he, h.trans (hb.mono h.size)⟩
theorem one_from {w0 W : World} (op a : Int) (h : Below w0.heap.size w0 W) :
    Calls Try.prog 11 #[.int .u8 op, .int .i64 a] W fun e w' => e = .returned (.tuple #[.int .i64 (onI op a), .bool (onB op)]) ∧ Below w0.heap.size w0 w' :=
  (one_any op a W).mono fun _ _ ⟨he, hb⟩ => ⟨he, h.trans (hb.mono h.size)⟩
theorem rone_from {w0 W : World} (op a : Int) (h : Below w0.heap.size w0 W) :
    Calls Try.prog 12 #[.int .u8 op, .int .i64 a] W fun e w' => e = .returned (.tuple #[.int .i64 (onI op a), .bool (onB op)]) ∧ Below w0.heap.size w0 w' :=
  (rone_any op a W).mono fun _ _ ⟨he, n, hn⟩ => ⟨he, by rw [hn]; exact below_drewN h n⟩

/-! ### comparing -/
theorem compares (x y : Nat) : (nanB x = false ∧ nanB y = false ∧ ((ltB x y = true ∧ ltB y x = false ∧ eqB x y = false) ∨ (ltB x y = false ∧ ltB y x = true ∧ eqB x y = false) ∨ (ltB x y = false ∧ ltB y x = false ∧ eqB x y = true))) ∨
    ((nanB x = true ∨ (nanB x = false ∧ nanB y = true)) ∧ ltB x y = false ∧ ltB y x = false ∧ eqB x y = false) := by
  cases hx : nanB x
  · cases hy : nanB y
    · left
      refine ⟨rfl, rfl, ?_⟩
      rw [lt_num x y hx hy, lt_num y x hy hx, eq_num x y hx hy]
      simp only [decide_eq_true_eq, decide_eq_false_iff_not]
      omega
    · exact .inr ⟨.inr ⟨rfl, rfl⟩, lt_nan _ _ (.inr hy), lt_nan _ _ (.inl hy), eq_nan _ _ (.inr hy)⟩
  · exact .inr ⟨.inl rfl, lt_nan _ _ (.inl hx), lt_nan _ _ (.inr hx), eq_nan _ _ (.inl hx)⟩

/-! ### cells of floats -/
theorem cb_tld {x : Nat} (h : nanB x = false) (hx : x < 18446744073709551616) : cb (tld x) = x := by
  rw [← tld_num h]; exact cb_wrap x hx
theorem word_lt64 (s : Bool) (q : Nat) (h : q ≤ infR) : Ieee.double.word s q < 18446744073709551616 := by
  have := lt63 h
  rw [word_eq]; cases s <;> simp <;> omega
theorem fl_lt (x : Nat) (hx : x < 18446744073709551616) (h : nanB x = false) : flB x < 18446744073709551616 := by
  have := nan_fin h
  by_cases e : rg x = infR
  · rw [fl_inf x hx e]; exact hx
  · obtain ⟨K, t, e1, h1, _⟩ := fl_fin x (by omega)
    rw [e1]; exact word_lt64 _ _ (by omega)
theorem floor_facts (a : Int) (h : nanB (cb a) = false) :
    ltB (cb a) (cb (onI 102 a)) = false ∧ (onI 102 (onI 102 a) == onI 102 a) = true ∧ ltB (cb (twI 43 (onI 102 a) 4607182418800017408)) (cb a) = false := by
  have hx := cb_lt a
  have e : onI 102 a = tld (flB (cb a)) := by
    rw [← onI_102]; unfold floB; rw [h, if_neg Bool.false_ne_true]; rfl
  have hf := fl_num _ hx h
  have hl := fl_lt _ hx h
  have ec : cb (onI 102 a) = flB (cb a) := by rw [e]; exact cb_tld hf hl
  refine ⟨?_, ?_, ?_⟩
  · rw [ec, lt_num _ _ h hf]
    have := fl_le _ hx h
    simp; omega
  · rw [beq_iff_eq, ← onI_102 (onI 102 a), ec, e]
    unfold floB; rw [hf, if_neg Bool.false_ne_true, fl_fl _ hx h]; rfl
  · obtain ⟨r, e1, h1, h2, h3⟩ := fl_up _ hx h
    have e2 : twI 43 (onI 102 a) 4607182418800017408 = tld r := by
      show tlo (Ieee.double.add (cb (onI 102 a)) (cb 4607182418800017408)) = _
      rw [ec, show cb 4607182418800017408 = 4607182418800017408 from by decide +kernel, e1]; rfl
    rw [e2, cb_tld h1 h2, lt_num _ _ h1 h]
    simp; omega

/-! ### exchanged -/
theorem sum_comm (a b : Ieee.Datum) : a.sum b = b.sum a := by
  cases a with
  | nan s t => cases b <;> rfl
  | infinity s =>
    cases b with
    | nan => rfl
    | infinity t =>
      show (if s = t then some (Ieee.Datum.infinity s) else none) = if t = s then some (Ieee.Datum.infinity t) else none
      by_cases h : s = t
      · subst h; rfl
      · rw [if_neg h, if_neg (Ne.symm h)]
    | number => rfl
  | number s m i =>
    cases b with
    | nan => rfl
    | infinity t => rfl
    | number t n j =>
      show some (Ieee.Datum.number (if Ieee.signed s m (i - min i j).toNat + Ieee.signed t n (j - min i j).toNat = 0 then s && t else Ieee.signed s m (i - min i j).toNat + Ieee.signed t n (j - min i j).toNat < 0) (Ieee.signed s m (i - min i j).toNat + Ieee.signed t n (j - min i j).toNat).natAbs (min i j)) =
        some (Ieee.Datum.number (if Ieee.signed t n (j - min j i).toNat + Ieee.signed s m (i - min j i).toNat = 0 then t && s else Ieee.signed t n (j - min j i).toNat + Ieee.signed s m (i - min j i).toNat < 0) (Ieee.signed t n (j - min j i).toNat + Ieee.signed s m (i - min j i).toNat).natAbs (min j i))
      rw [Int.min_comm j i, Int.add_comm (Ieee.signed t n _), Bool.and_comm t s]
theorem product_comm (a b : Ieee.Datum) : a.product b = b.product a := by
  cases a with
  | nan s t => cases b <;> rfl
  | infinity s =>
    cases b with
    | nan => rfl
    | infinity t => show some (Ieee.Datum.infinity (s ^^ t)) = some (Ieee.Datum.infinity (t ^^ s)); rw [Bool.xor_comm]
    | number => rfl
  | number s m i =>
    cases b with
    | nan => rfl
    | infinity t => rfl
    | number t n j =>
      show some (Ieee.Datum.number (s ^^ t) (m * n) (i + j)) = some (Ieee.Datum.number (t ^^ s) (n * m) (j + i))
      rw [Bool.xor_comm, Nat.mul_comm, Int.add_comm]
theorem sv_eq (a b : Int) (ha : -9223372036854775808 ≤ a ∧ a ≤ 9223372036854775807) (hb : -9223372036854775808 ≤ b ∧ b ≤ 9223372036854775807) (h : sv (cb a) = sv (cb b)) (hs : a < 0 ↔ b < 0) : a = b := by
  have e1 := ng_cb a ha
  have e2 := ng_cb b hb
  have en : ng (cb a) = ng (cb b) := by rw [e1, e2, decide_eq_decide]; exact hs
  have er : rg (cb a) = rg (cb b) := by
    apply rv_inj
    unfold sv at h
    rw [en] at h
    cases hn : ng (cb b)
    · rw [hn] at h; simp at h; omega
    · rw [hn] at h; simp at h; omega
  have := word_self _ (cb_lt a)
  rw [en, er, word_self _ (cb_lt b)] at this
  rw [← wrap_cb a ha, ← wrap_cb b hb, this]
theorem ls_two (a b : Int) : lsI a b = a ∨ lsI a b = b := by
  unfold lsI
  split
  · exact .inl rfl
  split
  · exact .inr rfl
  split
  · exact .inl rfl
  · exact .inr rfl
theorem ls_comm (a b : Int) (ha : -9223372036854775808 ≤ a ∧ a ≤ 9223372036854775807) (hb : -9223372036854775808 ≤ b ∧ b ≤ 9223372036854775807) (hx : nanB (cb a) = false) (hy : nanB (cb b) = false) : lsI a b = lsI b a := by
  unfold lsI
  rw [lt_num _ _ hx hy, lt_num _ _ hy hx]
  rcases Int.lt_trichotomy (sv (cb a)) (sv (cb b)) with h | h | h
  · rw [decide_eq_true h, decide_eq_false (show ¬ sv (cb b) < sv (cb a) by omega)]; rfl
  · rw [decide_eq_false (show ¬ sv (cb a) < sv (cb b) by omega), decide_eq_false (show ¬ sv (cb b) < sv (cb a) by omega)]
    simp only [Bool.false_eq_true, if_false]
    by_cases h1 : a < 0
    · by_cases h2 : b < 0
      · rw [if_pos h1, if_pos h2]; exact sv_eq a b ha hb h (by omega)
      · rw [if_pos h1, if_neg h2]
    · by_cases h2 : b < 0
      · rw [if_neg h1, if_pos h2]
      · rw [if_neg h1, if_neg h2]; exact (sv_eq a b ha hb h (by omega)).symm
  · rw [decide_eq_false (show ¬ sv (cb a) < sv (cb b) by omega), decide_eq_true h]; rfl
theorem gt_comm (a b : Int) (h : lsI a b = lsI b a) : gtI a b = gtI b a := by
  unfold gtI
  rw [← h]
  rcases ls_two a b with e | e
  · rw [e, if_pos rfl]
    by_cases k : a = b
    · rw [if_pos k, k]
    · rw [if_neg k]
  · rw [e, if_pos rfl]
    by_cases k : b = a
    · rw [if_pos k, k]
    · rw [if_neg k]
theorem ls_lt (a b : Int) (hx : nanB (cb a) = false) (hy : nanB (cb b) = false) : ltB (cb a) (cb (lsI a b)) = false ∧ ltB (cb b) (cb (lsI a b)) = false := by
  have h1 := lt_num _ _ hx hy
  have h2 := lt_num _ _ hy hx
  have s1 : ltB (cb a) (cb a) = false := by rw [lt_num _ _ hx hx]; simp
  have s2 : ltB (cb b) (cb b) = false := by rw [lt_num _ _ hy hy]; simp
  unfold lsI
  cases e1 : ltB (cb a) (cb b)
  · cases e2 : ltB (cb b) (cb a)
    · simp only [Bool.false_eq_true, if_false]
      split
      · exact ⟨s1, e2⟩
      · exact ⟨e1, s2⟩
    · simp only [Bool.false_eq_true, if_false, if_true]; exact ⟨e1, s2⟩
  · simp only [if_true]
    refine ⟨s1, ?_⟩
    rw [h2]; rw [h1] at e1; simp at e1 ⊢; omega
def rdD (s : Bool) (r : Nat) : Ieee.Datum :=
  if r < 4503599627370496 then .number s r (-1074)
  else if r < 9218868437227405312 then .number s (4503599627370496 + r % 4503599627370496) (-1074 + (r / 4503599627370496 - 1 : Nat))
  else if r = 9218868437227405312 then .infinity s
  else .nan s (r - 9218868437227405312)
theorem read_rd (x : Nat) : Ieee.double.read x = rdD (ng x) (rg x) := by
  unfold Ieee.Format.read rdD ng rg
  simp only [d_binade, d_inf, d_sign, d_least]
theorem rd_opp (s : Bool) (r : Nat) : (rdD s r).opposite = rdD (!s) r := by
  unfold rdD
  split
  · rfl
  split
  · rfl
  split
  · rfl
  · rfl
theorem sub_add (x y : Nat) : Ieee.double.sub x y = Ieee.double.add x (flipB y) := by
  unfold Ieee.Format.sub Ieee.Format.add
  rw [read_rd (flipB y), ng_flip, rg_flip, ← rd_opp, ← read_rd]
theorem neg_cb (a : Int) (h : nanB (cb a) = false) : onI 110 a = tld (flipB (cb a)) ∧ cb (onI 110 a) = flipB (cb a) := by
  have e : onI 110 a = tld (flipB (cb a)) := (onI_110 a).symm
  exact ⟨e, by rw [e]; exact cb_tld (by rw [nan_flip]; exact h) (flip_lt _)⟩
/-- All that the law of turns asks of two numbers. -/
theorem turns (a b : Int) (ha : -9223372036854775808 ≤ a ∧ a ≤ 9223372036854775807) (hb : -9223372036854775808 ≤ b ∧ b ≤ 9223372036854775807) (hx : nanB (cb a) = false) (hy : nanB (cb b) = false) :
    (twI 43 a b == twI 43 b a) = true ∧ (twI 42 a b == twI 42 b a) = true ∧ (twI 109 a b == twI 109 b a) = true ∧ (twI 77 a b == twI 77 b a) = true ∧ (twI 45 a b == twI 43 a (onI 110 b)) = true ∧
    (onI 110 (onI 110 a) == a) = true ∧ ((twI 109 a b == a) = true ∨ ((twI 109 a b == a) = false ∧ (twI 109 a b == b) = true)) ∧ ltB (cb a) (cb (twI 109 a b)) = false ∧ ltB (cb b) (cb (twI 109 a b)) = false ∧ ltB (cb (onI 97 a)) (cb a) = false := by
  have em : ∀ c d, twI 109 c d = tlo (mnB (cb c) (cb d)) := fun _ _ => rfl
  have eM : ∀ c d, twI 77 c d = tlo (mxB (cb c) (cb d)) := fun _ _ => rfl
  have l1 : twI 109 a b = lsI a b := mn_ls a b ha hb hx hy
  have l2 : twI 109 b a = lsI b a := mn_ls b a hb ha hy hx
  have g1 : twI 77 a b = gtI a b := mx_gt a b ha hb hx hy
  have g2 : twI 77 b a = gtI b a := mx_gt b a hb ha hy hx
  have lc := ls_comm a b ha hb hx hy
  obtain ⟨k1, k2⟩ := ls_lt a b hx hy
  obtain ⟨n1, n2⟩ := neg_cb a hx
  obtain ⟨n3, n4⟩ := neg_cb b hy
  refine ⟨?_, ?_, ?_, ?_, ?_, ?_, ?_, ?_, ?_, ?_⟩
  · rw [beq_iff_eq]
    show tlo (Ieee.double.add _ _) = tlo (Ieee.double.add _ _)
    unfold Ieee.Format.add; rw [sum_comm]
  · rw [beq_iff_eq]
    show tlo (Ieee.double.mul _ _) = tlo (Ieee.double.mul _ _)
    unfold Ieee.Format.mul; rw [product_comm]
  · rw [beq_iff_eq, l1, l2, lc]
  · rw [beq_iff_eq, g1, g2]; exact gt_comm a b lc
  · rw [beq_iff_eq]
    show tlo (Ieee.double.sub (cb a) (cb b)) = tlo (Ieee.double.add (cb a) (cb (onI 110 b)))
    rw [n4, sub_add]
  · rw [beq_iff_eq, ← onI_110 (onI 110 a), n2, flip_flip _ (cb_lt a)]
    exact tld_cb a ha hx
  · rw [l1]
    by_cases e : lsI a b = a
    · exact .inl (by simpa using e)
    · exact .inr ⟨by simpa using e, by simpa using (ls_two a b).resolve_left e⟩
  · rw [l1]; exact k1
  · rw [l1]; exact k2
  · have e : onI 97 a = tld (rg (cb a)) := (onI_97 a).symm
    have hn : nanB (rg (cb a)) = false := by rw [nan_rg]; exact hx
    have hl := rg_lt (cb a)
    rw [e, cb_tld hn (by omega), lt_num _ _ hn hx]
    have e1 : sv (rg (cb a)) = rv (rg (cb a)) := by
      unfold sv; rw [rg_rg, show ng (rg (cb a)) = false from by unfold ng; simp; omega]; rfl
    rw [e1]
    have : sv (cb a) ≤ rv (rg (cb a)) := by unfold sv; split <;> omega
    simp; omega
theorem twI_nanb (op a b : Int) (hop : twB op = true) (h : nanB (cb a) = true ∨ nanB (cb b) = true) : (twI op a b == 9221120237041090560) = true := by
  rw [beq_iff_eq]; exact (twI_nan op a b hop h).symm
theorem onI_nanb (op a : Int) (hop : onB op = true) (h : nanB (cb a) = true) : (onI op a == 9221120237041090560) = true := by
  rw [beq_iff_eq]; exact (onI_nan op a hop h).symm
end Go.Proofs.Ytbgaoipgfmaijaa
