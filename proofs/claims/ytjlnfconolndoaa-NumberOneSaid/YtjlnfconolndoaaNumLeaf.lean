/- Strings as lists of bytes; contracts of isBase, letter, figure (both), signed, and the closure that cuts a mark off. -/
import Derived.Test.YtjlnfconolndoaaRows
import Derived.Test.YtjlnfconolndoaaNumMath
import Derived.Laws.BytesArg
import Derived.Laws.Slices
import Derived.Laws.Strings3
import Derived.Laws.Concat
import Derived.OwnWalk
import Derived.OneCell
import Derived.WalkLawsBesides
import Derived.WalkSpells
import Derived.Outline
import Derived.Lib.Hide
import Derived.Deep.QuietTactic
import Derived.BigQuiet
namespace Go.Proofs.Ytjlnfconolndoaa
open Go.ChangeShapes Go.WideShapes Go.ChangeAt Go.RowKit
set_option linter.unusedVariables false

def bytesOk (xs : List Int) : Prop := ∀ x ∈ xs, 0 ≤ x ∧ x ≤ 255
theorem str_size (xs : List Int) : (strOfNums xs).size = xs.length := by
  show (xs.map fun n => UInt8.ofNat n.toNat).toArray.size = _
  simp
theorem str_list (xs : List Int) : (strOfNums xs).toList = xs.map fun n => UInt8.ofNat n.toNat := by
  unfold strOfNums
  rw [ByteArray.toList_mk]
theorem byte_back {x : Int} (h : 0 ≤ x ∧ x ≤ 255) : ((UInt8.ofNat x.toNat).toNat : Int) = x := by
  simp [UInt8.toNat_ofNat']
  omega
theorem bytesOk.tail {xs : List Int} (h : bytesOk xs) : bytesOk xs.tail := fun x hx => h x (List.mem_of_mem_tail hx)
theorem bytesOk.get {xs : List Int} (h : bytesOk xs) (k : Nat) : 0 ≤ xs.getD k 0 ∧ xs.getD k 0 ≤ 255 := by
  by_cases hk : k < xs.length
  · have := h xs[k] (List.getElem_mem hk)
    simpa [List.getD, hk] using this
  · simp [List.getD, Nat.le_of_not_lt hk]
theorem str_get {xs : List Int} (hx : bytesOk xs) {k : Nat} (hk : k < xs.length) (h : k < (strOfNums xs).size) : (((strOfNums xs)[k]'h).toNat : Int) = xs.getD k 0 := by
  have e : (strOfNums xs)[k]'h = UInt8.ofNat (xs.getD k 0).toNat := by
    show (xs.map fun n => UInt8.ofNat n.toNat).toArray[k]'(by simpa using hk) = _
    simp [List.getD, hk]
  rw [e, byte_back (hx.get k)]
theorem str_at {xs : List Int} (hx : bytesOk xs) {k : Nat} (hk : k < xs.length) (w : World) : (Instr.index 9 (.string (strOfNums xs)) (.int .i64 (k : Int))).run Try.prog w = .ok (.int .u8 (xs.getD k 0)) w := by
  rw [run_index_string (P := Try.prog) w 9 (strOfNums xs) .i64 k Try.underlying9, dif_pos (by rw [str_size]; omega)]
  simp only [Int.toNat_natCast]
  rw [str_get hx hk]
theorem str_from (xs : List Int) : (strOfNums xs).extract 1 xs.length = strOfNums xs.tail := by
  unfold strOfNums
  rw [ByteArray.extract_mk]
  congr 2
  cases xs with
  | nil => rfl
  | cons x xs => simp [List.take_of_length_le]
theorem str_app (xs ys : List Int) : strOfNums xs ++ strOfNums ys = strOfNums (xs ++ ys) := by
  unfold strOfNums
  rw [ByteArray.mk_append_mk, List.map_append]
theorem str_inj {xs ys : List Int} (hx : bytesOk xs) (hy : bytesOk ys) (h : (strOfNums xs).toList = (strOfNums ys).toList) : xs = ys := by
  rw [str_list, str_list] at h
  have e : ∀ zs : List Int, bytesOk zs → (zs.map fun n => UInt8.ofNat n.toNat).map (fun c => (c.toNat : Int)) = zs := by
    intro zs hz
    rw [List.map_map]
    conv => rhs; rw [← List.map_id zs]
    exact List.map_congr_left fun x h => byte_back (hz x h)
  rw [← e xs hx, ← e ys hy, h]
theorem str_beq {xs ys : List Int} (hx : bytesOk xs) (hy : bytesOk ys) : ((strOfNums xs).toList == (strOfNums ys).toList) = decide (xs = ys) := by
  by_cases h : xs = ys
  · subst h
    simp
  · have : ¬ (strOfNums xs).toList = (strOfNums ys).toList := fun hh => h (str_inj hx hy hh)
    simp [h, this]
/-- any string is the list of its bytes -/
def bytesOf (s : ByteArray) : List Int := s.data.toList.map fun c => (c.toNat : Int)
theorem bytesOf_ok (s : ByteArray) : bytesOk (bytesOf s) := by
  intro x hx
  obtain ⟨c, _, rfl⟩ := List.mem_map.1 hx
  have := c.toNat_lt
  omega
theorem str_of (s : ByteArray) : strOfNums (bytesOf s) = s := by
  obtain ⟨⟨l⟩⟩ := s
  unfold strOfNums bytesOf
  simp [List.map_map, Function.comp_def]

theorem isBase_any (b : Int) (w : World) (hb : -9223372036854775808 ≤ b ∧ b ≤ 9223372036854775807) :
    Calls Try.prog 13 #[.int .i64 b] w fun e w' => e = .returned (.bool (isB b)) ∧ w = w' := by
  by_cases h1 : 2 ≤ b
  · by_cases h2 : b ≤ 36
    · have e := Lib.hid (isB_yes ⟨h1, h2⟩)
      go_enter Try.func13, Try.ntmps13
      go_wp2
      go_ret
      rw [e.out]
      exact ⟨rfl, rfl⟩
    · have e := Lib.hid (isB_no (b := b) (by omega))
      go_enter Try.func13, Try.ntmps13
      go_wp2
      go_ret
      rw [e.out]
      exact ⟨rfl, rfl⟩
  · have e := Lib.hid (isB_no (b := b) (by omega))
    go_enter Try.func13, Try.ntmps13
    go_wp2
    go_ret
    rw [e.out]
    exact ⟨rfl, rfl⟩

theorem letter_any (d : Int) (w : World) (hd : 0 ≤ d ∧ d < 36) :
    Calls Try.prog 15 #[.int .i64 d] w fun e w' => e = .returned (.int .u8 (fig d)) ∧ w = w' := by
  by_cases h1 : d < 10
  · have e : Hid (48 + d = fig d) := by show 48 + d = fig d; unfold fig; rw [if_pos h1]
    go_enter Try.func15, Try.ntmps15
    go_wp2
    go_ret
    rw [← e.out]
    exact ⟨rfl, rfl⟩
  · have e : Hid (65 + d - 10 = fig d) := by show 65 + d - 10 = fig d; unfold fig; rw [if_neg h1]; omega
    go_enter Try.func15, Try.ntmps15
    go_wp2
    go_ret
    rw [← e.out]
    exact ⟨rfl, rfl⟩

theorem figure_any (c : Int) (w : World) (hc : 0 ≤ c ∧ c ≤ 255) :
    Calls Try.prog 20 #[.int .u8 c] w fun e w' => e = .returned (.int .i64 (figI c)) ∧ w = w' := by
  by_cases h1 : 48 ≤ c ∧ c ≤ 57
  · have e : Hid (figI c = c - 48) := by show figI c = _; unfold figI; rw [if_pos h1]
    go_enter Try.func20, Try.ntmps20
    go_wp2
    go_ret
    rw [e.out]
    exact ⟨rfl, rfl⟩
  · by_cases h2 : 65 ≤ c ∧ c ≤ 90
    · have e : Hid (figI c = c - 65 + 10) := by show figI c = _; unfold figI; rw [if_neg h1, if_pos h2]; omega
      have g : (decide (48 ≤ c) && decide (c ≤ 57)) = false := by simp; omega
      have g1 : 57 < c := by omega
      clear h1
      go_enter Try.func20, Try.ntmps20
      go_wp2
      go_ret
      rw [e.out]
      exact ⟨rfl, rfl⟩
    · by_cases h3 : 97 ≤ c ∧ c ≤ 122
      · have e : Hid (figI c = c - 97 + 10) := by show figI c = _; unfold figI; rw [if_neg h1, if_neg h2, if_pos h3]; omega
        have g1 : 57 < c := by omega
        have g2 : 90 < c := by omega
        clear h1 h2
        go_enter Try.func20, Try.ntmps20
        go_wp2
        go_ret
        rw [e.out]
        exact ⟨rfl, rfl⟩
      · have e : Hid (figI c = 36) := by show figI c = _; unfold figI; rw [if_neg h1, if_neg h2, if_neg h3]
        by_cases g1 : c < 48
        · clear h1 h2 h3
          go_enter Try.func20, Try.ntmps20
          go_wp2
          go_ret
          rw [e.out]
          exact ⟨rfl, rfl⟩
        · by_cases g2 : c < 65
          · have g3 : 57 < c := by omega
            clear h1 h2 h3
            go_enter Try.func20, Try.ntmps20
            go_wp2
            go_ret
            rw [e.out]
            exact ⟨rfl, rfl⟩
          · by_cases g4 : c < 97
            · have g3 : 90 < c := by omega
              clear h1 h2 h3
              go_enter Try.func20, Try.ntmps20
              go_wp2
              go_ret
              rw [e.out]
              exact ⟨rfl, rfl⟩
            · have g3 : 122 < c := by omega
              clear h1 h2 h3
              go_enter Try.func20, Try.ntmps20
              go_wp2
              go_ret
              rw [e.out]
              exact ⟨rfl, rfl⟩

theorem rfigure_any (c : Int) (w : World) (hc : 0 ≤ c ∧ c ≤ 255) :
    Calls Try.prog 19 #[.int .u8 c] w fun e w' => e = .returned (.int .i64 (figR c)) ∧ w = w' := by
  by_cases h1 : 48 ≤ c ∧ c ≤ 57
  · have e : Hid (figR c = c - 48) := by show figR c = _; unfold figR; rw [if_pos h1]
    go_enter Try.func19, Try.ntmps19
    go_wp2
    go_ret
    rw [e.out]
    exact ⟨rfl, rfl⟩
  · by_cases h2 : 65 ≤ c ∧ c ≤ 90
    · have e : Hid (figR c = c - 65 + 10) := by show figR c = _; unfold figR; rw [if_neg h1, if_pos h2]; omega
      have g : (decide (48 ≤ c) && decide (c ≤ 57)) = false := by simp; omega
      have g1 : 57 < c := by omega
      clear h1
      go_enter Try.func19, Try.ntmps19
      go_wp2
      go_ret
      rw [e.out]
      exact ⟨rfl, rfl⟩
    · by_cases h3 : 97 ≤ c ∧ c ≤ 122
      · have e : Hid (figR c = c - 97 + 10) := by show figR c = _; unfold figR; rw [if_neg h1, if_neg h2, if_pos h3]; omega
        have g1 : 57 < c := by omega
        have g2 : 90 < c := by omega
        clear h1 h2
        go_enter Try.func19, Try.ntmps19
        go_wp2
        go_ret
        rw [e.out]
        exact ⟨rfl, rfl⟩
      · have e : Hid (figR c = -1) := by show figR c = _; unfold figR; rw [if_neg h1, if_neg h2, if_neg h3]
        by_cases g1 : c < 48
        · clear h1 h2 h3
          go_enter Try.func19, Try.ntmps19
          go_wp2
          go_ret
          rw [e.out]
          exact ⟨rfl, rfl⟩
        · by_cases g2 : c < 65
          · have g3 : 57 < c := by omega
            clear h1 h2 h3
            go_enter Try.func19, Try.ntmps19
            go_wp2
            go_ret
            rw [e.out]
            exact ⟨rfl, rfl⟩
          · by_cases g4 : c < 97
            · have g3 : 90 < c := by omega
              clear h1 h2 h3
              go_enter Try.func19, Try.ntmps19
              go_wp2
              go_ret
              rw [e.out]
              exact ⟨rfl, rfl⟩
            · have g3 : 122 < c := by omega
              clear h1 h2 h3
              go_enter Try.func19, Try.ntmps19
              go_wp2
              go_ret
              rw [e.out]
              exact ⟨rfl, rfl⟩

theorem signed_any (xs : List Int) (w : World) (hx : bytesOk xs) (hn : xs.length ≤ 1000) :
    Calls Try.prog 18 #[.string (strOfNums xs)] w fun e w' => e = .returned (.int .i64 (signL xs)) ∧ w = w' := by
  have hs := str_size xs
  cases xs with
  | nil =>
    have e : Hid (signL [] = 0) := rfl
    have hs2 : (strOfNums []).size = 0 := hs
    clear hs
    go_enter Try.func18, Try.ntmps18
    go_wp2
    go_ret
    rw [e.out]
    exact ⟨rfl, rfl⟩
  | cons c cs =>
    have hc := hx c (List.mem_cons_self ..)
    have hat := fun w => str_at hx (k := 0) (by simp) w
    have hat2 : ∀ w, (Instr.index 9 (.string (strOfNums (c :: cs))) (.int .i64 0)).run Try.prog w = .ok (.int .u8 c) w := hat
    obtain ⟨n, hn2⟩ : ∃ n, n = (c :: cs).length := ⟨_, rfl⟩
    have hn0 : (n : Int) = cs.length + 1 := by rw [hn2]; simp
    have hne : ((n : Int) == 0) = false := by simp; omega
    rw [← hn2] at hs hn
    have e : Hid (signL (c :: cs) = if c = 35 then 10 else if c = 36 then 16 else if c = 37 then 2 else 0) := by
      show signL (c :: cs) = _
      simp [signL, isC]
    generalize strOfNums (c :: cs) = s at *
    rw [e.out]
    clear hat e hn2 hx
    by_cases c1 : c = 35
    · subst c1
      go_enter Try.func18, Try.ntmps18
      go_wp2
      go_ret
      exact ⟨rfl, rfl⟩
    · by_cases c2 : c = 36
      · subst c2
        go_enter Try.func18, Try.ntmps18
        go_wp2
        go_ret
        exact ⟨rfl, rfl⟩
      · by_cases c3 : c = 37
        · subst c3
          go_enter Try.func18, Try.ntmps18
          go_wp2
          go_ret
          exact ⟨rfl, rfl⟩
        · rw [if_neg c1, if_neg c2, if_neg c3]
          have d1 : (c == 35) = false := by simpa using c1
          have d2 : (c == 36) = false := by simpa using c2
          have d3 : (c == 37) = false := by simpa using c3
          go_enter Try.func18, Try.ntmps18
          go_wp2
          go_ret
          exact ⟨rfl, rfl⟩
end Go.Proofs.Ytjlnfconolndoaa
