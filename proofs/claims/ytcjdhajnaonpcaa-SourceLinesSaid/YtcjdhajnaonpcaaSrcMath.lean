/- Words, places, lines of a list of bytes: no program in it. -/
import Derived.Test.YtcjdhajnaonpcaaStr
namespace Go.Proofs.Ytcjdhajnaonpcaa
open Go.ChangeShapes Go.WideShapes Go.RowKit
set_option linter.unusedVariables false

/-- a place as it must be -/
def bdN (n : Nat) (a : Int) : Nat := if a < 0 then 0 else if (n : Int) < a then n else a.toNat
theorem bdN_le (n : Nat) (a : Int) : bdN n a ≤ n := by
  unfold bdN
  split
  · omega
  · split <;> omega
theorem bdN_in {n k : Nat} (h : k ≤ n) : bdN n (k : Int) = k := by
  rw [bdN, if_neg (by omega), if_neg (by omega), Int.toNat_natCast]
theorem bdN_low {n : Nat} {a : Int} (h : a < 0) : bdN n a = 0 := by rw [bdN, if_pos h]
theorem bdN_high {n : Nat} {a : Int} (h : (n : Int) < a) : bdN n a = n := by rw [bdN, if_neg (by omega), if_pos h]
theorem bdN_mid {n : Nat} {a : Int} (h : 0 ≤ a) (h2 : a ≤ n) : (bdN n a : Int) = a := by rw [bdN, if_neg (by omega), if_neg (by omega)]; omega

def blanks : List Int → Nat
  | [] => 0
  | x :: l => if x ≤ 32 then blanks l + 1 else 0
def word : List Int → Nat
  | [] => 0
  | x :: l => if x ≤ 32 then 0 else word l + 1
def ahead (c : Int) : List Int → Nat
  | [] => 0
  | x :: l => if x = c then 0 else ahead c l + 1
theorem blanks_le : ∀ l, blanks l ≤ l.length
  | [] => Nat.le_refl _
  | x :: l => by
    unfold blanks
    have := blanks_le l
    split <;> simp <;> omega
theorem word_le : ∀ l, word l ≤ l.length
  | [] => Nat.le_refl _
  | x :: l => by
    unfold word
    have := word_le l
    split <;> simp <;> omega
theorem ahead_le (c : Int) : ∀ l, ahead c l ≤ l.length
  | [] => Nat.le_refl _
  | x :: l => by
    unfold ahead
    have := ahead_le c l
    split <;> simp <;> omega

/-- where the next word begins, and ends; where the next c stands -/
def bg (xs : List Int) (k : Nat) : Nat := k + blanks (xs.drop k)
def en (xs : List Int) (k : Nat) : Nat := k + word (xs.drop k)
def fd (xs : List Int) (c : Int) (k : Nat) : Nat := k + ahead c (xs.drop k)
theorem bg_ge (xs : List Int) (k : Nat) : k ≤ bg xs k := Nat.le_add_right _ _
theorem en_ge (xs : List Int) (k : Nat) : k ≤ en xs k := Nat.le_add_right _ _
theorem fd_ge (xs : List Int) (c : Int) (k : Nat) : k ≤ fd xs c k := Nat.le_add_right _ _
theorem bg_le {xs : List Int} {k : Nat} (h : k ≤ xs.length) : bg xs k ≤ xs.length := by
  have := blanks_le (xs.drop k)
  rw [List.length_drop] at this
  unfold bg
  omega
theorem en_le {xs : List Int} {k : Nat} (h : k ≤ xs.length) : en xs k ≤ xs.length := by
  have := word_le (xs.drop k)
  rw [List.length_drop] at this
  unfold en
  omega
theorem fd_le {xs : List Int} {c : Int} {k : Nat} (h : k ≤ xs.length) : fd xs c k ≤ xs.length := by
  have := ahead_le c (xs.drop k)
  rw [List.length_drop] at this
  unfold fd
  omega
theorem bg_end (xs : List Int) : bg xs xs.length = xs.length := by rw [bg, List.drop_length]; rfl
theorem en_end (xs : List Int) : en xs xs.length = xs.length := by rw [en, List.drop_length]; rfl
theorem fd_end (xs : List Int) (c : Int) : fd xs c xs.length = xs.length := by rw [fd, List.drop_length]; rfl
theorem bg_on {xs : List Int} {k : Nat} (h : k < xs.length) (hb : xs.getD k 0 ≤ 32) : bg xs k = bg xs (k + 1) := by
  rw [bg, bg, drop_cons h, blanks, if_pos hb]
  omega
theorem bg_no {xs : List Int} {k : Nat} (h : k < xs.length) (hb : ¬ xs.getD k 0 ≤ 32) : bg xs k = k := by
  rw [bg, drop_cons h, blanks, if_neg hb]
  rfl
theorem en_on {xs : List Int} {k : Nat} (h : k < xs.length) (hb : ¬ xs.getD k 0 ≤ 32) : en xs k = en xs (k + 1) := by
  rw [en, en, drop_cons h, word, if_neg hb]
  omega
theorem en_no {xs : List Int} {k : Nat} (h : k < xs.length) (hb : xs.getD k 0 ≤ 32) : en xs k = k := by
  rw [en, drop_cons h, word, if_pos hb]
  rfl
theorem fd_on {xs : List Int} {c : Int} {k : Nat} (h : k < xs.length) (hb : ¬ xs.getD k 0 = c) : fd xs c k = fd xs c (k + 1) := by
  rw [fd, fd, drop_cons h, ahead, if_neg hb]
  omega
theorem fd_no {xs : List Int} {c : Int} {k : Nat} (h : k < xs.length) (hb : xs.getD k 0 = c) : fd xs c k = k := by
  rw [fd, drop_cons h, ahead, if_pos hb]
  rfl
/-- what a stretch is made of -/
theorem bg_in (xs : List Int) : ∀ (m k i : Nat), xs.length - k = m → k ≤ i → i < bg xs k → i < xs.length → xs.getD i 0 ≤ 32 := by
  intro m
  induction m with
  | zero => intro k i hm h1 h2 h3; omega
  | succ m ih =>
    intro k i hm h1 h2 h3
    by_cases hb : xs.getD k 0 ≤ 32
    · by_cases e : k = i
      · exact e ▸ hb
      · rw [bg_on (by omega) hb] at h2
        exact ih (k + 1) i (by omega) (by omega) h2 h3
    · rw [bg_no (by omega) hb] at h2
      omega
theorem en_in (xs : List Int) : ∀ (m k i : Nat), xs.length - k = m → k ≤ i → i < en xs k → i < xs.length → ¬ xs.getD i 0 ≤ 32 := by
  intro m
  induction m with
  | zero => intro k i hm h1 h2 h3; omega
  | succ m ih =>
    intro k i hm h1 h2 h3
    by_cases hb : xs.getD k 0 ≤ 32
    · rw [en_no (by omega) hb] at h2
      omega
    · by_cases e : k = i
      · exact e ▸ hb
      · rw [en_on (by omega) hb] at h2
        exact ih (k + 1) i (by omega) (by omega) h2 h3
theorem fd_in (xs : List Int) (c : Int) : ∀ (m k i : Nat), xs.length - k = m → k ≤ i → i < fd xs c k → i < xs.length → ¬ xs.getD i 0 = c := by
  intro m
  induction m with
  | zero => intro k i hm h1 h2 h3; omega
  | succ m ih =>
    intro k i hm h1 h2 h3
    by_cases hb : xs.getD k 0 = c
    · rw [fd_no (by omega) hb] at h2
      omega
    · by_cases e : k = i
      · exact e ▸ hb
      · rw [fd_on (by omega) hb] at h2
        exact ih (k + 1) i (by omega) (by omega) h2 h3
/-- what stands at a stretch's end -/
theorem bg_at (xs : List Int) : ∀ (m k : Nat), xs.length - k = m → bg xs k < xs.length → ¬ xs.getD (bg xs k) 0 ≤ 32 := by
  intro m
  induction m with
  | zero =>
    intro k hm h
    have := bg_ge xs k
    omega
  | succ m ih =>
    intro k hm h
    by_cases hb : xs.getD k 0 ≤ 32
    · rw [bg_on (by omega) hb] at h ⊢
      exact ih (k + 1) (by omega) h
    · rwa [bg_no (by omega) hb]
theorem fd_at (xs : List Int) (c : Int) : ∀ (m k : Nat), xs.length - k = m → fd xs c k < xs.length → xs.getD (fd xs c k) 0 = c := by
  intro m
  induction m with
  | zero =>
    intro k hm h
    have := fd_ge xs c k
    omega
  | succ m ih =>
    intro k hm h
    by_cases hb : xs.getD k 0 = c
    · rwa [fd_no (by omega) hb]
    · rw [fd_on (by omega) hb] at h ⊢
      exact ih (k + 1) (by omega) h
/-- a word that begins somewhere is not empty -/
theorem en_far {xs : List Int} {k : Nat} (h : bg xs k < xs.length) : bg xs k < en xs (bg xs k) := by
  rw [en_on h (bg_at xs _ k rfl h)]
  exact en_ge xs _

/-! ### lines and columns -/
def stp (p : Int × Int) (x : Int) : Int × Int := if x = 10 then (p.1 + 1, 1) else (p.1, p.2 + 1)
def plc (l : List Int) : Int × Int := l.foldl stp (1, 1)
theorem plc_snoc (l : List Int) (x : Int) : plc (l ++ [x]) = stp (plc l) x := by simp [plc]
theorem plc_nil : plc [] = (1, 1) := rfl
theorem plc_step {xs : List Int} {k : Nat} (h : k < xs.length) : plc (xs.take (k + 1)) = stp (plc (xs.take k)) (xs.getD k 0) := by rw [take_snoc h, plc_snoc]
theorem stp_no {p : Int × Int} {x : Int} (h : ¬ x = 10) : stp p x = (p.1, p.2 + 1) := by rw [stp, if_neg h]
theorem stp_yes {p : Int × Int} {x : Int} (h : x = 10) : stp p x = (p.1 + 1, 1) := by rw [stp, if_pos h]
/-- a stretch with no line feed -/
theorem plc_free {xs : List Int} {k : Nat} : ∀ (d : Nat), k + d ≤ xs.length → (∀ i, k ≤ i → i < k + d → ¬ xs.getD i 0 = 10) → plc (xs.take (k + d)) = ((plc (xs.take k)).1, (plc (xs.take k)).2 + d) := by
  intro d
  induction d with
  | zero => intro _ _; simp
  | succ d ih =>
    intro h hi
    rw [← Nat.add_assoc, plc_step (by omega), ih (by omega) (fun i a b => hi i a (by omega)), stp_no (hi _ (by omega) (by omega))]
    simp
    omega
theorem plc_bd (l : List Int) (n : Nat) (hn : l.length ≤ n) : (1 ≤ (plc l).1 ∧ (plc l).1 ≤ l.length + 1) ∧ (1 ≤ (plc l).2 ∧ (plc l).2 ≤ l.length + 1) := by
  have : ∀ k, k ≤ l.length → (1 ≤ (plc (l.take k)).1 ∧ (plc (l.take k)).1 ≤ k + 1) ∧ (1 ≤ (plc (l.take k)).2 ∧ (plc (l.take k)).2 ≤ k + 1) := by
    intro k
    induction k with
    | zero => intro _; simp [plc_nil]
    | succ k ih =>
      intro h
      have := ih (by omega)
      rw [plc_step (by omega)]
      unfold stp
      split <;> simp <;> omega
  have h := this l.length (Nat.le_refl _)
  rwa [List.take_length] at h
/-- a later place has a higher line, or the same one and a higher column -/
def lx (p q : Int × Int) : Prop := p.1 < q.1 ∨ (p.1 = q.1 ∧ p.2 < q.2)
theorem lx_up {xs : List Int} {k : Nat} : ∀ d, k + (d + 1) ≤ xs.length → lx (plc (xs.take k)) (plc (xs.take (k + (d + 1)))) := by
  intro d
  induction d with
  | zero =>
    intro h
    rw [plc_step (by omega)]
    unfold stp lx
    split
    · exact .inl (by show _ < _ + 1; omega)
    · exact .inr ⟨rfl, by show _ < _ + 1; omega⟩
  | succ d ih =>
    intro h
    have h1 := ih (by omega)
    rw [← Nat.add_assoc k (d + 1) 1, plc_step (by omega)]
    unfold lx stp at *
    split
    · exact .inl (by show _ < _ + 1; omega)
    · show _ < _ ∨ (_ = _ ∧ _ < _ + 1)
      omega
theorem lx_iff {xs : List Int} {p q : Nat} (hp : p ≤ xs.length) (hq : q ≤ xs.length) : lx (plc (xs.take p)) (plc (xs.take q)) ↔ p < q := by
  constructor
  · intro h
    rcases Nat.lt_trichotomy p q with g | g | g
    · exact g
    · subst g
      unfold lx at h
      omega
    · obtain ⟨d, rfl⟩ : ∃ d, p = q + (d + 1) := ⟨p - q - 1, by omega⟩
      have := lx_up (xs := xs) (k := q) d hp
      unfold lx at h this
      omega
  · intro h
    obtain ⟨d, rfl⟩ : ∃ d, q = p + (d + 1) := ⟨q - p - 1, by omega⟩
    exact lx_up d hq
end Go.Proofs.Ytcjdhajnaonpcaa
