/- Names in capital letters, and the newest word of a name: lists alone, no function of the program. -/
import Derived.Test.YtcjbfokindoicaaDoorStr
namespace Go.Proofs.YtcjbfokindoicaaDoor.On
set_option maxRecDepth 100000
open Go.ChangeShapes Go.WideShapes Go.RowKit
set_option linter.unusedVariables false

def cap1 (c : Int) : Int := if 97 ≤ c ∧ c ≤ 122 then c - 32 else c
theorem cap1_yes {c : Int} (h : 97 ≤ c ∧ c ≤ 122) : cap1 c = c - 32 := if_pos h
theorem cap1_no {c : Int} (h : ¬ (97 ≤ c ∧ c ≤ 122)) : cap1 c = c := if_neg h
theorem cap1_cap1 (c : Int) : cap1 (cap1 c) = cap1 c := by
  by_cases h : 97 ≤ c ∧ c ≤ 122
  · rw [cap1_yes h, cap1_no (by omega)]
  · rw [cap1_no h, cap1_no h]
theorem cap1_bd {c : Int} (h : 0 ≤ c ∧ c ≤ 255) : 0 ≤ cap1 c ∧ cap1 c ≤ 255 := by
  unfold cap1
  split <;> omega
def fold (xs : List Int) : List Int := xs.map cap1
theorem fold_len (xs : List Int) : (fold xs).length = xs.length := by simp [fold]
theorem fold_fold (xs : List Int) : fold (fold xs) = fold xs := by
  simp [fold, cap1_cap1]
theorem fold_ok {xs : List Int} (h : bytesOk xs) : bytesOk (fold xs) := by
  intro x hx
  obtain ⟨y, hy, rfl⟩ := List.mem_map.1 hx
  exact cap1_bd (h y hy)
/-- the first k are turned -/
def foldK (xs : List Int) (k : Nat) : List Int := fold (xs.take k) ++ xs.drop k
theorem foldK_0 (xs : List Int) : foldK xs 0 = xs := by simp [foldK, fold]
theorem foldK_all (xs : List Int) : foldK xs xs.length = fold xs := by simp [foldK]
theorem foldK_len (xs : List Int) (k : Nat) : (foldK xs k).length = xs.length := by
  simp [foldK, fold]
  omega
theorem foldK_at {xs : List Int} {k : Nat} (h : k < xs.length) : (foldK xs k).getD k 0 = xs.getD k 0 := by
  have hl : (fold (xs.take k)).length = k := by simp [fold]; omega
  rw [foldK, List.getD, List.getElem?_append_right (by omega), hl, Nat.sub_self, List.getElem?_drop]
  simp [List.getD]
theorem foldK_next {xs : List Int} {k : Nat} (h : k < xs.length) : foldK xs (k + 1) = (foldK xs k).set k (cap1 (xs.getD k 0)) := by
  have hl : (fold (xs.take k)).length = k := by simp [fold]; omega
  rw [foldK, foldK, List.set_append_right _ _ (by omega), hl, Nat.sub_self, take_snoc h, drop_cons h]
  simp [fold]
theorem foldK_same {xs : List Int} {k : Nat} (h : k < xs.length) (hc : cap1 (xs.getD k 0) = xs.getD k 0) : foldK xs (k + 1) = foldK xs k := by
  rw [foldK_next h, hc, ← foldK_at h]
  have hk : k < (foldK xs k).length := by rw [foldK_len]; exact h
  simp [List.getD, hk]
theorem fold_take {xs : List Int} {k : Nat} (h : k < xs.length) : fold (xs.take (k + 1)) = fold (xs.take k) ++ [cap1 (xs.getD k 0)] := by
  rw [take_snoc h]
  simp [fold]

/-- what is thrown of a name -/
def mayN (n : Nat) : Int := if n = 0 then -16 else if 31 < n then -19 else 0

/-! ### words -/
structure Wd where
  nm : List Int
  code : Int
  now : Bool
  hid : Bool
def Wd.cells (x : Wd) : List Value := [.string (strOfNums x.nm), .int .i64 x.code, .bool x.now, .bool x.hid]
def Wd.ok (x : Wd) (m : Nat) : Prop := bytesOk x.nm ∧ x.nm.length ≤ m
instance : Inhabited Wd := ⟨⟨[], 0, false, false⟩⟩
/-- is it that word, by a name in capital letters? -/
def hit (x : Wd) (f : List Int) : Bool := !x.hid && decide (fold x.nm = f)
/-- the newest of the first k -/
def fndK (ws : List Wd) (f : List Int) : Nat → Int
  | 0 => -1
  | k + 1 => if hit (ws.getD k default) f then (k : Int) else fndK ws f k
def fnd (ws : List Wd) (nm : List Int) : Int := fndK ws (fold nm) ws.length
theorem fndK_yes {ws : List Wd} {f : List Int} {k : Nat} (h : hit (ws.getD k default) f = true) : fndK ws f (k + 1) = k := by rw [fndK, if_pos h]
theorem fndK_no {ws : List Wd} {f : List Int} {k : Nat} (h : hit (ws.getD k default) f = false) : fndK ws f (k + 1) = fndK ws f k := by rw [fndK, if_neg (by rw [h]; decide)]
theorem fndK_bd (ws : List Wd) (f : List Int) : ∀ k : Nat, -1 ≤ fndK ws f k ∧ fndK ws f k < k
  | 0 => by simp [fndK]
  | k + 1 => by
    have := fndK_bd ws f k
    rw [fndK]
    split <;> omega
theorem fnd_bd (ws : List Wd) (nm : List Int) : -1 ≤ fnd ws nm ∧ fnd ws nm < ws.length := fndK_bd ws (fold nm) ws.length
theorem fnd_fold (ws : List Wd) (nm : List Int) : fnd ws (fold nm) = fnd ws nm := by rw [fnd, fold_fold]; rfl
theorem fndK_congr {ws vs : List Wd} {f : List Int} : ∀ k : Nat, (∀ i, i < k → ws.getD i default = vs.getD i default) → fndK ws f k = fndK vs f k
  | 0, _ => rfl
  | k + 1, h => by rw [fndK, fndK, h k (by omega), fndK_congr k (fun i hi => h i (by omega))]
theorem fndK_is {ws : List Wd} {f : List Int} : ∀ k : Nat, 0 ≤ fndK ws f k → hit (ws.getD (fndK ws f k).toNat default) f = true
  | 0, h => by simp [fndK] at h
  | k + 1, h => by
    rw [fndK] at h ⊢
    by_cases hh : hit (ws.getD k default) f = true
    · rw [if_pos hh, Int.toNat_natCast]
      exact hh
    · rw [if_neg hh] at h ⊢
      exact fndK_is k h
/-- a word behind others -/
theorem fnd_snoc (ws : List Wd) (x : Wd) (nm : List Int) : fnd (ws ++ [x]) nm = if hit x (fold nm) then (ws.length : Int) else fnd ws nm := by
  have e1 : (ws ++ [x]).getD ws.length default = x := by simp [List.getD]
  have e2 : fndK (ws ++ [x]) (fold nm) ws.length = fndK ws (fold nm) ws.length := fndK_congr _ fun i hi => by simp [List.getD, List.getElem?_append_left hi]
  rw [fnd, List.length_append, List.length_singleton, fndK, e1, e2]
  rfl
theorem fnd_take (ws : List Wd) (nm : List Int) {k : Nat} (h : k ≤ ws.length) : fnd (ws.take k) nm = fndK ws (fold nm) k := by
  rw [fnd, List.length_take, Nat.min_eq_left h]
  exact fndK_congr k fun i hi => by simp [List.getD, hi]
/-- without the words from the place on -/
theorem fnd_less {ws : List Wd} {nm : List Int} {i : Nat} (h : fnd ws nm = i) : i < ws.length ∧ hit (ws.getD i default) (fold nm) = true ∧ fnd (ws.take (i + 1)) nm = i ∧ fnd (ws.take i) nm < i := by
  have hb := fnd_bd ws nm
  have hi : i < ws.length := by omega
  have hh : hit (ws.getD i default) (fold nm) = true := by
    have := fndK_is (ws := ws) (f := fold nm) ws.length (by show 0 ≤ fnd ws nm; omega)
    have e : fndK ws (fold nm) ws.length = i := h
    rw [e, Int.toNat_natCast] at this
    exact this
  refine ⟨hi, hh, ?_, ?_⟩
  · rw [fnd_take ws nm (by omega), fndK_yes hh]
  · rw [fnd_take ws nm (by omega)]
    exact (fndK_bd ws (fold nm) i).2
theorem hit_parts {x : Wd} {f : List Int} (h : hit x f = true) : x.hid = false ∧ fold x.nm = f := by
  simpa [hit] using h
end Go.Proofs.YtcjbfokindoicaaDoor.On
