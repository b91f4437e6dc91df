/- Strings as lists of bytes: no function of the program in it. -/
import Derived.Test.YtcjbfokindoicaaDoorRows
import Derived.Test.YtcjbfokindoicaaDoorBelow
import Derived.WalkKit
import Derived.ProofKit
import Derived.OpenShut
import Derived.Below
import Derived.Deep.DeepCutAuto
import Derived.Deep.CutBlock
import Derived.Laws.BytesArg
import Derived.Laws.Slices
import Derived.Laws.Strings3
import Derived.Laws.Concat
import Derived.OwnWalk
import Derived.OneCell
import Derived.WalkLawsBesides
import Derived.WalkSpells
import Derived.Outline
import Derived.Lib.Hide
import Derived.Deep.QuietTactic
import Derived.BigQuiet
namespace Go.Proofs.YtcjbfokindoicaaDoor.On
set_option maxRecDepth 100000
open Go.ChangeShapes Go.WideShapes Go.RowKit
set_option linter.unusedVariables false

def bytesOk (xs : List Int) : Prop := ∀ x ∈ xs, 0 ≤ x ∧ x ≤ 255
theorem str_size (xs : List Int) : (strOfNums xs).size = xs.length := by
  show (xs.map fun n => UInt8.ofNat n.toNat).toArray.size = _
  simp
theorem str_list (xs : List Int) : (strOfNums xs).toList = xs.map fun n => UInt8.ofNat n.toNat := by
  unfold strOfNums
  rw [ByteArray.toList_mk]
theorem byte_back {x : Int} (h : 0 ≤ x ∧ x ≤ 255) : ((UInt8.ofNat x.toNat).toNat : Int) = x := by
  simp [UInt8.toNat_ofNat']
  omega
theorem bytesOk.tail {xs : List Int} (h : bytesOk xs) : bytesOk xs.tail := fun x hx => h x (List.mem_of_mem_tail hx)
theorem bytesOk.drop {xs : List Int} (h : bytesOk xs) (k : Nat) : bytesOk (xs.drop k) := fun x hx => h x (List.mem_of_mem_drop hx)
theorem bytesOk.take {xs : List Int} (h : bytesOk xs) (k : Nat) : bytesOk (xs.take k) := fun x hx => h x (List.mem_of_mem_take hx)
theorem bytesOk.get {xs : List Int} (h : bytesOk xs) (k : Nat) : 0 ≤ xs.getD k 0 ∧ xs.getD k 0 ≤ 255 := by
  by_cases hk : k < xs.length
  · have := h xs[k] (List.getElem_mem hk)
    simpa [List.getD, hk] using this
  · simp [List.getD, Nat.le_of_not_lt hk]
theorem str_get {xs : List Int} (hx : bytesOk xs) {k : Nat} (hk : k < xs.length) (h : k < (strOfNums xs).size) : (((strOfNums xs)[k]'h).toNat : Int) = xs.getD k 0 := by
  have e : (strOfNums xs)[k]'h = UInt8.ofNat (xs.getD k 0).toNat := by
    show (xs.map fun n => UInt8.ofNat n.toNat).toArray[k]'(by simpa using hk) = _
    simp [List.getD, hk]
  rw [e, byte_back (hx.get k)]
/-- s[k], as the walk meets it -/
theorem str_at {xs : List Int} (hx : bytesOk xs) {k : Nat} (hk : k < xs.length) (w : World) : (Instr.index 9 (.string (strOfNums xs)) (.int .i64 (k : Int))).run Tryd.prog w = .ok (.int .u8 (xs.getD k 0)) w := by
  rw [run_index_string (P := Tryd.prog) w 9 (strOfNums xs) .i64 k Tryd.underlying9, dif_pos (by rw [str_size]; omega)]
  simp only [Int.toNat_natCast]
  rw [str_get hx hk]
theorem str_from (xs : List Int) : (strOfNums xs).extract 1 xs.length = strOfNums xs.tail := by
  unfold strOfNums
  rw [ByteArray.extract_mk]
  congr 2
  cases xs with
  | nil => rfl
  | cons x xs => simp [List.take_of_length_le]
theorem str_app (xs ys : List Int) : strOfNums xs ++ strOfNums ys = strOfNums (xs ++ ys) := by
  unfold strOfNums
  rw [ByteArray.mk_append_mk, List.map_append]
theorem str_inj {xs ys : List Int} (hx : bytesOk xs) (hy : bytesOk ys) (h : (strOfNums xs).toList = (strOfNums ys).toList) : xs = ys := by
  rw [str_list, str_list] at h
  have e : ∀ zs : List Int, bytesOk zs → (zs.map fun n => UInt8.ofNat n.toNat).map (fun c => (c.toNat : Int)) = zs := by
    intro zs hz
    rw [List.map_map]
    conv => rhs; rw [← List.map_id zs]
    exact List.map_congr_left fun x h => byte_back (hz x h)
  rw [← e xs hx, ← e ys hy, h]
theorem str_beq {xs ys : List Int} (hx : bytesOk xs) (hy : bytesOk ys) : ((strOfNums xs).toList == (strOfNums ys).toList) = decide (xs = ys) := by
  by_cases h : xs = ys
  · subst h
    simp
  · have : ¬ (strOfNums xs).toList = (strOfNums ys).toList := fun hh => h (str_inj hx hy hh)
    simp [h, this]
/-- any string is the list of its bytes -/
def bytesOf (s : ByteArray) : List Int := s.data.toList.map fun c => (c.toNat : Int)
theorem bytesOf_ok (s : ByteArray) : bytesOk (bytesOf s) := by
  intro x hx
  obtain ⟨c, _, rfl⟩ := List.mem_map.1 hx
  have := c.toNat_lt
  omega
theorem str_of (s : ByteArray) : strOfNums (bytesOf s) = s := by
  obtain ⟨⟨l⟩⟩ := s
  unfold strOfNums bytesOf
  simp [List.map_map, Function.comp_def]
theorem drop_cons {xs : List Int} {k : Nat} (h : k < xs.length) : xs.drop k = xs.getD k 0 :: xs.drop (k + 1) := by
  rw [List.drop_eq_getElem_cons h]
  simp [List.getD, h]
theorem take_snoc {xs : List Int} {k : Nat} (h : k < xs.length) : xs.take (k + 1) = xs.take k ++ [xs.getD k 0] := by
  rw [List.take_succ_eq_append_getElem h]
  simp [List.getD, h]

/-! ### a part of a string -/
def cutN (xs : List Int) (a b : Nat) : List Int := (xs.drop a).take (b - a)
theorem cutN_ok {xs : List Int} (h : bytesOk xs) (a b : Nat) : bytesOk (cutN xs a b) := (h.drop a).take (b - a)
theorem cutN_len {xs : List Int} {a b : Nat} (hab : a ≤ b) (hb : b ≤ xs.length) : (cutN xs a b).length = b - a := by
  simp [cutN]
  omega
theorem cutN_end (xs : List Int) (a : Nat) : cutN xs a xs.length = xs.drop a := by
  rw [cutN, List.take_of_length_le (by simp)]
theorem cutN_start (xs : List Int) (b : Nat) : cutN xs 0 b = xs.take b := by simp [cutN]
theorem str_cut (xs : List Int) (a b : Nat) : (strOfNums xs).extract a b = strOfNums (cutN xs a b) := by
  unfold strOfNums cutN
  rw [ByteArray.extract_mk]
  simp [List.map_take, List.map_drop]
/-- s[a:b], s[a:], s[:b], as the walk meets them -/
theorem run_cut (xs : List Int) {a b : Nat} (hab : a ≤ b) (hb : b ≤ xs.length) (w : World) :
    (Instr.sliceAt 9 (.string (strOfNums xs)) (some (.int .i64 (a : Int))) (some (.int .i64 (b : Int))) none).run Tryd.prog w = .ok (.string (strOfNums (cutN xs a b))) w := by
  have hs := str_size xs
  rw [run_sliceAt_string (P := Tryd.prog) w _ _ _ _ _ Tryd.underlying9]
  simp [Instr.slice, run_underlying (P := Tryd.prog) Tryd.underlying9, Instr.sliceBounds, hs, run_sliceBound, show (b : Int) ≤ xs.length by omega, hab, str_cut, Result.andThen]
theorem run_cutFrom (xs : List Int) {a : Nat} (ha : a ≤ xs.length) (w : World) :
    (Instr.sliceAt 9 (.string (strOfNums xs)) (some (.int .i64 (a : Int))) none none).run Tryd.prog w = .ok (.string (strOfNums (cutN xs a xs.length))) w := by
  have hs := str_size xs
  rw [run_sliceAt_string (P := Tryd.prog) w _ _ _ _ _ Tryd.underlying9]
  simp [Instr.slice, run_underlying (P := Tryd.prog) Tryd.underlying9, Instr.sliceBounds, hs, run_sliceBound, ha, str_cut, Result.andThen]
theorem run_cutTo (xs : List Int) {b : Nat} (hb : b ≤ xs.length) (w : World) :
    (Instr.sliceAt 9 (.string (strOfNums xs)) none (some (.int .i64 (b : Int))) none).run Tryd.prog w = .ok (.string (strOfNums (cutN xs 0 b))) w := by
  have hs := str_size xs
  rw [run_sliceAt_string (P := Tryd.prog) w _ _ _ _ _ Tryd.underlying9]
  simp [Instr.slice, run_underlying (P := Tryd.prog) Tryd.underlying9, Instr.sliceBounds, hs, run_sliceBound, hb, str_cut, Result.andThen]
theorem mkf (fn : Fn) (first cap : Array Value) (w : World) : (Instr.makeFunc fn first cap).run Tryd.prog w = .ok (.func fn first cap) w := rfl
end Go.Proofs.YtcjbfokindoicaaDoor.On
