/- A state that a loop emits into, word by word; what Fetch tells of it. -/
import Derived.Test.YtkjokgjjpoocgaaDoorAsmRun
namespace Go.Proofs.YtkjokgjjpoocgaaDoor
set_option maxRecDepth 100000
open Go.ChangeShapes Go.WideShapes Go.ChangeAt Go.RowKit
open On (St Hs StIs cst Fl one C64 C8 Sc slc spc Sz wpList_append_run)
set_option linter.unusedVariables false
set_option maxRecDepth 100000

/-- a word's cells -/
def cdo (wth x : Int) : List Int := if x % 3 = 0 then [2 + x / 3 % 6, wth] else [13 + x % 100]
def pre (wth : Int) (xs : List Int) (k : Nat) : List Int := (xs.take k).flatMap (cdo wth)
theorem cdo_len (wth x : Int) : 1 ≤ (cdo wth x).length ∧ (cdo wth x).length ≤ 2 := by unfold cdo; split <;> simp
theorem pre_next (wth : Int) (xs : List Int) {k : Nat} (h : k < xs.length) : pre wth xs (k + 1) = pre wth xs k ++ cdo wth (xs.getD k 0) := by
  unfold pre
  rw [List.take_add_one, List.getElem?_eq_getElem h, List.flatMap_append]
  simp [List.getD, h]
theorem pre_len (wth : Int) (xs : List Int) : ∀ k, (pre wth xs k).length ≤ 2 * k
  | 0 => by simp [pre]
  | k + 1 => by
    have ih := pre_len wth xs k
    by_cases h : k < xs.length
    · rw [pre_next wth xs h, List.length_append]
      have := (cdo_len wth (xs.getD k 0)).2
      omega
    · have : pre wth xs (k + 1) = pre wth xs k := by unfold pre; rw [List.take_of_length_le (by omega), List.take_of_length_le (by omega)]
      rw [this]; omega
theorem pre_all (wth : Int) (xs : List Int) (k : Nat) (h : k ≤ xs.length) : pre wth xs xs.length = pre wth xs k ++ (xs.drop k).flatMap (cdo wth) := by
  unfold pre
  rw [List.take_length, ← List.flatMap_append, List.take_append_drop]
theorem pre_get (wth : Int) (xs : List Int) {k j : Nat} (h : k < xs.length) (hj : j < (cdo wth (xs.getD k 0)).length) : (pre wth xs xs.length).getD ((pre wth xs k).length + j) 0 = (cdo wth (xs.getD k 0)).getD j 0 := by
  rw [pre_all wth xs (k + 1) (by omega), pre_next wth xs h, List.append_assoc]
  generalize xs.getD k 0 = x at *
  simp only [List.getD]
  rw [List.getElem?_append_right (by omega), show (pre wth xs k).length + j - (pre wth xs k).length = j by omega, List.getElem?_append_left hj]
theorem cdo_ok {wth x : Int} (hw : C64 wth) (hx : 0 ≤ x ∧ x ≤ 255) : ∀ z ∈ cdo wth x, C64 z := by
  intro z hz
  unfold cdo at hz
  split at hz
  · rcases List.mem_cons.1 hz with rfl | hz
    · unfold C64; omega
    · obtain rfl := List.mem_singleton.1 hz; exact hw
  · obtain rfl := List.mem_singleton.1 hz
    unfold C64; omega
theorem pre_ok {wth : Int} {xs : List Int} (hw : C64 wth) (hx : ∀ x ∈ xs, 0 ≤ x ∧ x ≤ 255) (k : Nat) : ∀ z ∈ pre wth xs k, C64 z := by
  intro z hz
  obtain ⟨x, h1, h2⟩ := List.mem_flatMap.1 hz
  exact cdo_ok hw (hx x (List.mem_of_mem_take h1)) z h2
/-- the state after so many words -/
def stk (wth : Int) (xs : List Int) (k : Nat) : St := (emitC (fresh 400 0 0) (pre wth xs k)).2
theorem stk_run {wth : Int} {xs : List Int} (hw : C64 wth) (hx : ∀ x ∈ xs, 0 ≤ x ∧ x ≤ 255) {k : Nat} (hk : k ≤ 20) : emitC (fresh 400 0 0) (pre wth xs k) = (0, stk wth xs k) ∧ Run (fresh 400 0 0) (stk wth xs k) 0 (pre wth xs k) := by
  have hl := pre_len wth xs k
  obtain ⟨S, h1, h2⟩ := emit_run (pre wth xs k) (fresh 400 0 0) 0 rfl rfl (by show _ ≤ (List.replicate 400 (0 : Int)).length; rw [List.length_replicate]; omega) (fun x hx => by cases hx) (pre_ok hw hx k)
  unfold stk
  rw [h1]
  exact ⟨rfl, h2⟩
theorem fresh_len : (fresh 400 0 0).mem.length = 400 := by show (List.replicate 400 (0 : Int)).length = 400; exact List.length_replicate ..
theorem stk_ok {wth : Int} {xs : List Int} (k : Nat) : (stk wth xs k).ok := emitC_ok _ _ (aw_ok 400 0 0 (by unfold C64; omega) (by unfold C64; omega)) (by show (List.replicate 400 (0 : Int)).length ≤ _; rw [List.length_replicate]; omega)
theorem stk_mem {wth : Int} {xs : List Int} (hw : C64 wth) (hx : ∀ x ∈ xs, 0 ≤ x ∧ x ≤ 255) {k : Nat} (hk : k ≤ 20) : (stk wth xs k).mem.length = 400 ∧ (stk wth xs k).spots.length ≤ 40 ∧ (stk wth xs k).here = ((8 * (pre wth xs k).length : Nat) : Int) := by
  have h := (stk_run hw hx hk).2
  have hl := pre_len wth xs k
  refine ⟨h.len.trans fresh_len, ?_, by rw [h.here]; simp⟩
  rw [h.spots]
  show (([] : List (Int × Int)) ++ sps _ _ _).length ≤ 40
  rw [List.nil_append, sps_len]
  omega
theorem stk_next {wth : Int} {xs : List Int} (hw : C64 wth) (hx : ∀ x ∈ xs, 0 ≤ x ∧ x ≤ 255) {k : Nat} (hk : k < xs.length) (h20 : k + 1 ≤ 20) : emitC (stk wth xs k) (cdo wth (xs.getD k 0)) = (0, stk wth xs (k + 1)) := by
  have h1 := (stk_run hw hx (k := k) (by omega)).1
  have h2 := (stk_run hw hx h20).1
  rw [pre_next wth xs hk, emitC_app _ _ _ (by rw [h1])] at h2
  exact h2
/-- where the k-th word begins -/
def stt (wth : Int) (xs : List Int) (k : Nat) : Nat := 8 * (pre wth xs k).length
theorem stt_next (wth : Int) (xs : List Int) {k : Nat} (h : k < xs.length) : stt wth xs (k + 1) = stt wth xs k + 8 * (cdo wth (xs.getD k 0)).length := by
  unfold stt; rw [pre_next wth xs h, List.length_append]; omega
theorem stt_le (wth : Int) (xs : List Int) (k : Nat) : stt wth xs k ≤ 16 * k := by unfold stt; have := pre_len wth xs k; omega
theorem fet_at {wth : Int} {xs : List Int} (hw : C64 wth) (hx : ∀ x ∈ xs, 0 ≤ x ∧ x ≤ 255) (hn : xs.length ≤ 20) {k : Nat} (hk : k < xs.length) :
    ∃ op, fetC (stk wth xs xs.length).mem (stt wth xs k : Int) = (op, if xs.getD k 0 % 3 = 0 then wth else 0, (stt wth xs (k + 1) : Int), 0) := by
  obtain ⟨hm, _, _⟩ := stk_mem hw hx hn
  have hR := (stk_run hw hx hn).2
  have hle := stt_le wth xs (k + 1)
  have hnx := stt_next wth xs hk
  have hmk : xs.getD k 0 ∈ xs := by simp [List.getD, hk]
  have hb := hx _ hmk
  have h0 := pre_get wth xs (j := 0) hk (by have := (cdo_len wth (xs.getD k 0)).1; omega)
  have hlt : (pre wth xs k).length + (cdo wth (xs.getD k 0)).length ≤ (pre wth xs xs.length).length := by
    rw [pre_all wth xs (k + 1) (by omega), pre_next wth xs hk]; simp only [List.length_append]; omega
  have hcl := cdo_len wth (xs.getD k 0)
  have ht : Me.tC (stk wth xs xs.length).mem.length (stt wth xs k : Int) = 0 := by rw [hm]; exact Me.tC_ok (by omega) (by unfold stt; omega)
  have hc : Me.celI (stk wth xs xs.length).mem (stt wth xs k : Int) = (cdo wth (xs.getD k 0)).getD 0 0 := by
    unfold Me.celI
    rw [if_pos ht, show ((stt wth xs k : Nat) : Int).toNat = 0 + 8 * (pre wth xs k).length by unfold stt; omega, hR.new _ (by omega)]
    exact h0
  unfold fetC
  rw [if_neg (by rw [ht]; simp)]
  by_cases h3 : xs.getD k 0 % 3 = 0
  · have e : cdo wth (xs.getD k 0) = [2 + xs.getD k 0 / 3 % 6, wth] := by unfold cdo; rw [if_pos h3]
    rw [e] at hc h0 hlt hnx
    have h1 := pre_get wth xs (j := 1) hk (by rw [e]; exact Nat.le_refl 2)
    rw [e] at h1
    simp only [List.length_cons, List.length_nil] at hlt hnx
    have ht2 : Me.tC (stk wth xs xs.length).mem.length ((stt wth xs k : Int) + 8) = 0 := by rw [hm]; exact Me.tC_ok (by omega) (by unfold stt; omega)
    have hc2 : Me.celI (stk wth xs xs.length).mem ((stt wth xs k : Int) + 8) = wth := by
      unfold Me.celI
      rw [if_pos ht2, show (((stt wth xs k : Nat) : Int) + 8).toNat = 0 + 8 * ((pre wth xs k).length + 1) by unfold stt; omega, hR.new _ (by omega)]
      exact h1
    have hc' : Me.celI (stk wth xs xs.length).mem (stt wth xs k : Int) = 2 + xs.getD k 0 / 3 % 6 := hc
    have hwd : On.wid (2 + xs.getD k 0 / 3 % 6) = true := by
      unfold On.wid
      simp only [Bool.or_eq_true, Bool.and_eq_true, decide_eq_true_eq]
      omega
    rw [if_pos h3, hc', hwd, if_neg (by decide), ht2, if_neg (by simp), if_pos (by omega), hc2]
    exact ⟨2 + xs.getD k 0 / 3 % 6, by rw [hnx]; exact congrArg (fun z : Int => (2 + xs.getD k 0 / 3 % 6, wth, z, (0 : Int))) (by omega)⟩
  · have e : cdo wth (xs.getD k 0) = [13 + xs.getD k 0 % 100] := by unfold cdo; rw [if_neg h3]
    rw [e] at hc hnx
    simp only [List.length_cons, List.length_nil] at hnx
    have hc' : Me.celI (stk wth xs xs.length).mem (stt wth xs k : Int) = 13 + xs.getD k 0 % 100 := hc
    have hwd : On.wid (13 + xs.getD k 0 % 100) = false := by
      unfold On.wid
      simp only [Bool.or_eq_false_iff, Bool.and_eq_false_iff, decide_eq_false_iff_not]
      omega
    rw [if_neg h3, hc', hwd, if_pos rfl]
    exact ⟨13 + xs.getD k 0 % 100, by rw [hnx]; exact congrArg (fun z : Int => (13 + xs.getD k 0 % 100, (0 : Int), z, (0 : Int))) (by omega)⟩
end Go.Proofs.YtkjokgjjpoocgaaDoor
