/- The words' names, in the order of their numbers, and their kinds: lists alone, no function of the program. -/
import Derived.Test.YtcjbfokindoicaaDoorNamMath
namespace Go.Proofs.YtcjbfokindoicaaDoor.On
set_option maxRecDepth 100000
open Go.ChangeShapes Go.WideShapes Go.RowKit
set_option linter.unusedVariables false
set_option maxRecDepth 100000

def nms : List (List Int) := [
  [69, 88, 73, 84], [40, 76, 73, 84, 41], [40, 66, 82, 65, 78, 67, 72, 41], [40, 48, 66, 82, 65, 78, 67, 72, 41], [40, 68, 79, 41], [40, 76, 79, 79, 80, 41], [40, 43, 76, 79, 79, 80, 41], [40, 86, 65, 82, 41],
  [40, 68, 79, 69, 83, 41], [40, 84, 69, 88, 84, 41], [40, 77, 65, 82, 75, 41], [67, 79, 77, 80, 73, 76, 69, 44], [68, 85, 80], [68, 82, 79, 80], [83, 87, 65, 80], [79, 86, 69, 82],
  [82, 79, 84], [78, 73, 80], [84, 85, 67, 75], [63, 68, 85, 80], [50, 68, 85, 80], [50, 68, 82, 79, 80], [50, 83, 87, 65, 80], [50, 79, 86, 69, 82],
  [80, 73, 67, 75], [82, 79, 76, 76], [68, 69, 80, 84, 72], [43], [45], [42], [47], [77, 79, 68],
  [47, 77, 79, 68], [42, 47], [42, 47, 77, 79, 68], [49, 43], [49, 45], [50, 42], [50, 47], [78, 69, 71, 65, 84, 69],
  [65, 66, 83], [77, 73, 78], [77, 65, 88], [65, 78, 68], [79, 82], [88, 79, 82], [73, 78, 86, 69, 82, 84], [76, 83, 72, 73, 70, 84],
  [82, 83, 72, 73, 70, 84], [61], [60, 62], [60], [62], [85, 60], [48, 61], [48, 60],
  [48, 60, 62], [48, 62], [87, 73, 84, 72, 73, 78], [84, 82, 85, 69], [70, 65, 76, 83, 69], [67, 69, 76, 76, 83], [67, 69, 76, 76, 43], [70, 43],
  [70, 45], [70, 42], [70, 47], [70, 77, 73, 78], [70, 77, 65, 88], [70, 78, 69, 71, 65, 84, 69], [70, 65, 66, 83], [70, 83, 81, 82, 84],
  [70, 76, 79, 79, 82], [70, 60], [70, 61], [83, 62, 70], [70, 62, 83], [64], [33], [43, 33],
  [67, 64], [67, 33], [72, 69, 82, 69], [65, 76, 76, 79, 84], [44], [67, 44], [65, 76, 73, 71, 78], [66, 65, 83, 69],
  [68, 69, 67, 73, 77, 65, 76], [72, 69, 88], [62, 82], [82, 62], [82, 64], [73], [74], [85, 78, 76, 79, 79, 80],
  [76, 69, 65, 86, 69], [73, 70], [69, 76, 83, 69], [84, 72, 69, 78], [66, 69, 71, 73, 78], [65, 71, 65, 73, 78], [85, 78, 84, 73, 76], [87, 72, 73, 76, 69],
  [82, 69, 80, 69, 65, 84], [68, 79], [76, 79, 79, 80], [43, 76, 79, 79, 80], [82, 69, 67, 85, 82, 83, 69], [58], [59], [73, 77, 77, 69, 68, 73, 65, 84, 69],
  [67, 79, 78, 83, 84, 65, 78, 84], [86, 65, 82, 73, 65, 66, 76, 69], [67, 82, 69, 65, 84, 69], [68, 79, 69, 83, 62], [77, 65, 82, 75, 69, 82], [39], [91, 39, 93], [76, 73, 84, 69, 82, 65, 76],
  [80, 79, 83, 84, 80, 79, 78, 69], [91], [93], [69, 88, 69, 67, 85, 84, 69], [67, 72, 65, 82], [91, 67, 72, 65, 82, 93], [40], [92],
  [46, 34], [69, 77, 73, 84], [67, 82], [83, 80, 65, 67, 69], [46], [84, 89, 80, 69], [75, 69, 89], [84, 72, 82, 79, 87],
  [65, 66, 79, 82, 84]]
theorem nms_len : nms.length = 137 := by decide +kernel
def nmN (m : Nat) : List Int := nms.getD m []
def nm (op : Int) : List Int := if 1 ≤ op ∧ op ≤ 137 then nmN (op - 1).toNat else []
theorem nm_at {m : Nat} (h : m < 137) : nm ((m : Int) + 1) = nmN m := by
  rw [nm, if_pos (by omega)]
  congr 1
  omega
theorem nm_out {op : Int} (h : ¬ (1 ≤ op ∧ op ≤ 137)) : nm op = [] := if_neg h
theorem in_at {op : Int} (h : 1 ≤ op ∧ op ≤ 137) : ∃ m : Nat, m < 137 ∧ op = (m : Int) + 1 := ⟨(op - 1).toNat, by omega, by omega⟩
/-- every name: bytes, none of them a blank, no small letter, not empty, few -/
def goodName (x : List Int) : Bool := x.all (fun c => decide (33 ≤ c) && decide (c ≤ 255) && !(decide (97 ≤ c) && decide (c ≤ 122))) && decide (1 ≤ x.length) && decide (x.length ≤ 60)
theorem nms_good : nms.all goodName = true := by decide +kernel
theorem nmN_mem {m : Nat} (h : m < 137) : nmN m ∈ nms := by
  have : m < nms.length := by rw [nms_len]; exact h
  unfold nmN
  simp [List.getD, this]
theorem nmN_good {m : Nat} (h : m < 137) : (∀ c ∈ nmN m, 33 ≤ c ∧ c ≤ 255 ∧ ¬ (97 ≤ c ∧ c ≤ 122)) ∧ 1 ≤ (nmN m).length ∧ (nmN m).length ≤ 60 := by
  have := List.all_eq_true.1 nms_good _ (nmN_mem h)
  simp only [goodName, Bool.and_eq_true, List.all_eq_true, decide_eq_true_eq, Bool.not_eq_true', Bool.and_eq_false_iff, decide_eq_false_iff_not] at this
  obtain ⟨⟨h1, h2⟩, h3⟩ := this
  refine ⟨fun c hc => ?_, h2, h3⟩
  have := h1 c hc
  omega
theorem nmN_ok {m : Nat} (h : m < 137) : bytesOk (nmN m) := fun c hc => by
  have := (nmN_good h).1 c hc
  omega
theorem nm_ok (op : Int) : bytesOk (nm op) := by
  unfold nm
  split
  · exact nmN_ok (by omega)
  · intro c hc
    cases hc
theorem nm_len (op : Int) : (nm op).length ≤ 60 := by
  unfold nm
  split
  · exact (nmN_good (by omega)).2.2
  · simp
theorem nm_fold (op : Int) : fold (nm op) = nm op := by
  unfold nm
  split
  · have := (nmN_good (m := (op - 1).toNat) (by omega)).1
    unfold fold
    conv => rhs; rw [← List.map_id (nmN (op - 1).toNat)]
    exact List.map_congr_left fun c hc => cap1_no (this c hc).2.2
  · rfl
theorem nm_nil (op : Int) : nm op = [] ↔ ¬ (1 ≤ op ∧ op ≤ 137) := by
  constructor
  · intro h hb
    obtain ⟨m, hm, rfl⟩ := in_at hb
    rw [nm_at hm] at h
    have := (nmN_good hm).2.1
    rw [h] at this
    simp at this
  · exact nm_out

/-! ### the number of a name -/
def ix (f : List Int) : Int := if nms.idxOf f < 137 then (nms.idxOf f : Int) + 1 else 0
theorem ix_names : ∀ m < 137, nms.idxOf (nmN m) = m := by decide +kernel
theorem ix_at {m : Nat} (h : m < 137) : ix (nmN m) = (m : Int) + 1 := by
  unfold ix
  rw [ix_names m h, if_pos h]
theorem nmN_inj {m k : Nat} (h : m < 137) (hk : k < 137) (e : nmN m = nmN k) : m = k := by
  have := ix_at h
  rw [e, ix_at hk] at this
  omega
theorem ix_cases (f : List Int) : (ix f = 0 ∧ ∀ m < 137, nmN m ≠ f) ∨ ∃ m : Nat, m < 137 ∧ f = nmN m ∧ ix f = (m : Int) + 1 := by
  by_cases h : nms.idxOf f < 137
  · refine .inr ⟨nms.idxOf f, h, ?_, if_pos h⟩
    have hl : nms.idxOf f < nms.length := by rw [nms_len]; exact h
    have := List.getElem_idxOf hl
    unfold nmN
    simp [List.getD, hl, this]
  · refine .inl ⟨if_neg h, fun m hm e => ?_⟩
    rw [← e, ix_names m hm] at h
    exact h hm

/-! ### kinds -/
def isw (op : Int) : Bool := decide (1 ≤ op) && decide (op ≤ 137)
def inn (op : Int) : Bool := decide (2 ≤ op) && decide (op ≤ 11)
def now (op : Int) : Bool := decide (98 ≤ op) && decide (op ≤ 109) || decide (op = 111) || decide (op = 116) || decide (119 ≤ op) && decide (op ≤ 122) || decide (126 ≤ op) && decide (op ≤ 129)
def onl (op : Int) : Bool := decide (op = 1) || decide (91 ≤ op) && decide (op ≤ 109) || decide (op = 111) || decide (op = 116) || decide (119 ≤ op) && decide (op ≤ 121) || decide (op = 126)
def wid (op : Int) : Bool := decide (2 ≤ op) && decide (op ≤ 8) || decide (10 ≤ op) && decide (op ≤ 11)
def innK : List (List Int) := [[40, 76, 73, 84, 41], [40, 66, 82, 65, 78, 67, 72, 41], [40, 48, 66, 82, 65, 78, 67, 72, 41], [40, 68, 79, 41], [40, 76, 79, 79, 80, 41], [40, 43, 76, 79, 79, 80, 41], [40, 86, 65, 82, 41], [40, 68, 79, 69, 83, 41], [40, 84, 69, 88, 84, 41], [40, 77, 65, 82, 75, 41]]
theorem innK_ok : ∀ k ∈ innK, bytesOk k := by
  have : innK.all (fun k => k.all fun c => decide (0 ≤ c) && decide (c ≤ 255)) = true := by decide +kernel
  intro k hk c hc
  have := List.all_eq_true.1 (List.all_eq_true.1 this k hk) c hc
  simpa using this
theorem innK_in : ∀ m < 137, decide (nmN m ∈ innK) = inn ((m : Int) + 1) := by decide +kernel
theorem innK_nil : decide ([] ∈ innK) = false := by decide +kernel
theorem innK_is (op : Int) : decide (nm op ∈ innK) = inn op := by
  by_cases h : 1 ≤ op ∧ op ≤ 137
  · obtain ⟨m, hm, rfl⟩ := in_at h
    rw [nm_at hm]
    exact innK_in m hm
  · rw [nm_out h, innK_nil]
    have : inn op = false := by
      unfold inn
      simp only [Bool.and_eq_false_iff, decide_eq_false_iff_not]
      omega
    exact this.symm
def nowK : List (List Int) := [[73, 70], [69, 76, 83, 69], [84, 72, 69, 78], [66, 69, 71, 73, 78], [65, 71, 65, 73, 78], [85, 78, 84, 73, 76], [87, 72, 73, 76, 69], [82, 69, 80, 69, 65, 84], [68, 79], [76, 79, 79, 80], [43, 76, 79, 79, 80], [82, 69, 67, 85, 82, 83, 69], [59], [68, 79, 69, 83, 62], [91, 39, 93], [76, 73, 84, 69, 82, 65, 76], [80, 79, 83, 84, 80, 79, 78, 69], [91], [91, 67, 72, 65, 82, 93], [40], [92], [46, 34]]
theorem nowK_ok : ∀ k ∈ nowK, bytesOk k := by
  have : nowK.all (fun k => k.all fun c => decide (0 ≤ c) && decide (c ≤ 255)) = true := by decide +kernel
  intro k hk c hc
  have := List.all_eq_true.1 (List.all_eq_true.1 this k hk) c hc
  simpa using this
theorem nowK_in : ∀ m < 137, decide (nmN m ∈ nowK) = now ((m : Int) + 1) := by decide +kernel
theorem nowK_nil : decide ([] ∈ nowK) = false := by decide +kernel
theorem nowK_is (op : Int) : decide (nm op ∈ nowK) = now op := by
  by_cases h : 1 ≤ op ∧ op ≤ 137
  · obtain ⟨m, hm, rfl⟩ := in_at h
    rw [nm_at hm]
    exact nowK_in m hm
  · rw [nm_out h, nowK_nil]
    have : now op = false := by
      unfold now
      simp only [Bool.or_eq_false_iff, Bool.and_eq_false_iff, decide_eq_false_iff_not]
      omega
    exact this.symm
def onlK : List (List Int) := [[69, 88, 73, 84], [62, 82], [82, 62], [82, 64], [73], [74], [85, 78, 76, 79, 79, 80], [76, 69, 65, 86, 69], [73, 70], [69, 76, 83, 69], [84, 72, 69, 78], [66, 69, 71, 73, 78], [65, 71, 65, 73, 78], [85, 78, 84, 73, 76], [87, 72, 73, 76, 69], [82, 69, 80, 69, 65, 84], [68, 79], [76, 79, 79, 80], [43, 76, 79, 79, 80], [82, 69, 67, 85, 82, 83, 69], [59], [68, 79, 69, 83, 62], [91, 39, 93], [76, 73, 84, 69, 82, 65, 76], [80, 79, 83, 84, 80, 79, 78, 69], [91, 67, 72, 65, 82, 93]]
theorem onlK_ok : ∀ k ∈ onlK, bytesOk k := by
  have : onlK.all (fun k => k.all fun c => decide (0 ≤ c) && decide (c ≤ 255)) = true := by decide +kernel
  intro k hk c hc
  have := List.all_eq_true.1 (List.all_eq_true.1 this k hk) c hc
  simpa using this
theorem onlK_in : ∀ m < 137, decide (nmN m ∈ onlK) = onl ((m : Int) + 1) := by decide +kernel
theorem onlK_nil : decide ([] ∈ onlK) = false := by decide +kernel
theorem onlK_is (op : Int) : decide (nm op ∈ onlK) = onl op := by
  by_cases h : 1 ≤ op ∧ op ≤ 137
  · obtain ⟨m, hm, rfl⟩ := in_at h
    rw [nm_at hm]
    exact onlK_in m hm
  · rw [nm_out h, onlK_nil]
    have : onl op = false := by
      unfold onl
      simp only [Bool.or_eq_false_iff, Bool.and_eq_false_iff, decide_eq_false_iff_not]
      omega
    exact this.symm
def widK : List (List Int) := [[40, 76, 73, 84, 41], [40, 66, 82, 65, 78, 67, 72, 41], [40, 48, 66, 82, 65, 78, 67, 72, 41], [40, 68, 79, 41], [40, 76, 79, 79, 80, 41], [40, 43, 76, 79, 79, 80, 41], [40, 86, 65, 82, 41], [40, 84, 69, 88, 84, 41], [40, 77, 65, 82, 75, 41]]
theorem widK_ok : ∀ k ∈ widK, bytesOk k := by
  have : widK.all (fun k => k.all fun c => decide (0 ≤ c) && decide (c ≤ 255)) = true := by decide +kernel
  intro k hk c hc
  have := List.all_eq_true.1 (List.all_eq_true.1 this k hk) c hc
  simpa using this
theorem widK_in : ∀ m < 137, decide (nmN m ∈ widK) = wid ((m : Int) + 1) := by decide +kernel
theorem widK_nil : decide ([] ∈ widK) = false := by decide +kernel
theorem widK_is (op : Int) : decide (nm op ∈ widK) = wid op := by
  by_cases h : 1 ≤ op ∧ op ≤ 137
  · obtain ⟨m, hm, rfl⟩ := in_at h
    rw [nm_at hm]
    exact widK_in m hm
  · rw [nm_out h, widK_nil]
    have : wid op = false := by
      unfold wid
      simp only [Bool.or_eq_false_iff, Bool.and_eq_false_iff, decide_eq_false_iff_not]
      omega
    exact this.symm

/-! ### the word of a name -/
def fnO (f : List Int) : Int := if inn (ix f) then 0 else ix f
theorem fnO_hit {m : Nat} {f : List Int} (h : m < 137) (hi : inn ((m : Int) + 1) = false) (he : nmN m = f) : fnO f = (m : Int) + 1 := by
  subst he
  unfold fnO
  rw [ix_at h, hi]
  rfl
theorem fnO_no {f : List Int} (h : ∀ m : Nat, m < 137 → ¬ (inn ((m : Int) + 1) = false ∧ nmN m = f)) : fnO f = 0 := by
  unfold fnO
  rcases ix_cases f with ⟨h0, _⟩ | ⟨m, hm, rfl, he⟩
  · rw [h0]
    rfl
  · rw [he]
    have : inn ((m : Int) + 1) = true := by
      cases hi : inn ((m : Int) + 1) with
      | true => rfl
      | false => exact absurd ⟨hi, rfl⟩ (h m hm)
    rw [this]
    rfl
theorem fnO_cases (f : List Int) : fnO f = 0 ∨ (1 ≤ fnO f ∧ fnO f ≤ 137 ∧ inn (fnO f) = false ∧ nm (fnO f) = f) := by
  unfold fnO
  rcases ix_cases f with ⟨h0, _⟩ | ⟨m, hm, rfl, he⟩
  · rw [h0]
    exact .inl rfl
  · rw [he]
    cases hi : inn ((m : Int) + 1) with
    | true => exact .inl rfl
    | false => exact .inr ⟨by simp; omega, by simp; omega, by simpa using hi, by simpa using nm_at hm⟩
theorem fnO_bd (f : List Int) : 0 ≤ fnO f ∧ fnO f ≤ 137 := by
  rcases fnO_cases f with h | ⟨h1, h2, _⟩ <;> omega
theorem fnO_nm (op : Int) : fnO (nm op) = if isw op && !inn op then op else 0 := by
  by_cases h : 1 ≤ op ∧ op ≤ 137
  · obtain ⟨m, hm, rfl⟩ := in_at h
    rw [nm_at hm]
    unfold fnO
    rw [ix_at hm]
    have : isw ((m : Int) + 1) = true := by simp [isw]; omega
    rw [this]
    cases inn ((m : Int) + 1) <;> rfl
  · have : isw op = false := by
      simp [isw]
      omega
    have e : fnO [] = 0 := by decide +kernel
    rw [this, nm_out h, e]
    rfl

/-! ### all names in one text, a blank behind each -/
def flat (l : List (List Int)) : List Int := (l.map (· ++ [32])).flatten
def offs (l : List (List Int)) (m : Nat) : Nat := ((l.take m).map fun x => x.length + 1).sum
theorem flat_drop : ∀ (l : List (List Int)) (m : Nat), m ≤ l.length → (flat l).drop (offs l m) = flat (l.drop m)
  | l, 0, _ => by simp [offs]
  | [], m + 1, h => by simp at h
  | x :: l, m + 1, h => by
    have ih := flat_drop l m (by simpa using h)
    have e : offs (x :: l) (m + 1) = (x ++ [32]).length + offs l m := by simp [offs]
    have e2 : flat (x :: l) = (x ++ [32]) ++ flat l := by simp [flat]
    rw [e, e2, ← List.drop_drop, List.drop_left, ih]
    rfl
def allB : List Int := flat nms
def off (m : Nat) : Nat := offs nms m
theorem allB_len : allB.length = 654 := by decide +kernel
theorem off_0 : off 0 = 0 := rfl
theorem off_end : off 137 = 654 := by decide +kernel
theorem off_next {m : Nat} (h : m < 137) : off (m + 1) = off m + (nmN m).length + 1 := by
  have hl : m < nms.length := by rw [nms_len]; exact h
  have g : nms.getD m [] = nms[m] := by simp [List.getD, hl]
  unfold off offs nmN
  rw [g, List.take_succ_eq_append_getElem hl]
  simp only [List.map_append, List.sum_append, List.map_cons, List.map_nil, List.sum_cons, List.sum_nil]
  omega
theorem off_le {m : Nat} (h : m ≤ 137) : ∀ k, m + k ≤ 137 → off m ≤ off (m + k)
  | 0, _ => Nat.le_refl _
  | k + 1, hk => by
    have := off_le h k (by omega)
    have h2 := off_next (m := m + k) (by omega)
    rw [show m + (k + 1) = m + k + 1 by omega]
    omega
theorem off_bd {m : Nat} (h : m < 137) : off m + (nmN m).length ≤ 653 := by
  have h1 := off_next h
  have h2 := off_le (m := m + 1) (by omega) (137 - (m + 1)) (by omega)
  rw [show m + 1 + (137 - (m + 1)) = 137 by omega, off_end] at h2
  omega
theorem all_drop {m : Nat} (h : m < 137) : ∃ r, allB.drop (off m) = nmN m ++ 32 :: r := by
  have hl : m < nms.length := by rw [nms_len]; exact h
  have := flat_drop nms m (by omega)
  refine ⟨flat (nms.drop (m + 1)), ?_⟩
  show (flat nms).drop (offs nms m) = _
  have e2 : ∀ (x : List Int) (l : List (List Int)), flat (x :: l) = x ++ 32 :: flat l := fun x l => by simp [flat]
  have g : nmN m = nms[m] := by simp [nmN, List.getD, hl]
  rw [this, List.drop_eq_getElem_cons hl, e2, g]
theorem all_get {m j : Nat} (h : m < 137) : allB.getD (off m + j) 0 = (allB.drop (off m)).getD j 0 := by
  simp [List.getD]
/-- the text without its last blank -/
def txt : List Int := allB.take 653
theorem txt_len : txt.length = 653 := by simp [txt, allB_len]
theorem txt_ok : bytesOk txt := by
  have : txt.all (fun c => decide (0 ≤ c) && decide (c ≤ 255)) = true := by decide +kernel
  intro c hc
  have := List.all_eq_true.1 this c hc
  simpa using this
theorem txt_get {i : Nat} (h : i < 653) : txt.getD i 0 = allB.getD i 0 := by
  simp [txt, List.getD, h]
/-- inside a name -/
theorem txt_in {m j : Nat} (h : m < 137) (hj : j < (nmN m).length) : off m + j < 653 ∧ (txt.getD (off m + j) 0 == 32) = false := by
  have hb := off_bd h
  refine ⟨by omega, ?_⟩
  obtain ⟨r, hr⟩ := all_drop h
  rw [txt_get (by omega), all_get h, hr]
  have e : (nmN m ++ 32 :: r).getD j 0 = (nmN m)[j] := by simp [List.getD, List.getElem?_append_left hj, hj]
  rw [e]
  have := (nmN_good h).1 _ (List.getElem_mem hj)
  simp
  omega
/-- behind a name -/
theorem txt_end {m : Nat} (h : m < 137) (hj : off m + (nmN m).length < 653) : (txt.getD (off m + (nmN m).length) 0 == 32) = true := by
  obtain ⟨r, hr⟩ := all_drop h
  rw [txt_get (by omega), all_get h, hr]
  simp [List.getD]
theorem txt_cut {m : Nat} (h : m < 137) : cutN txt (off m) (off m + (nmN m).length) = nmN m := by
  have hb := off_bd h
  obtain ⟨r, hr⟩ := all_drop h
  unfold cutN txt
  rw [List.drop_take, hr, List.take_take]
  have : min (off m + (nmN m).length - off m) (653 - off m) = (nmN m).length := by omega
  rw [this, List.take_left]
end Go.Proofs.YtcjbfokindoicaaDoor.On
